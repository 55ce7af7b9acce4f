/- What Fits of the document's answers of layer 5 comes to: a row's eight signs against an opcode. Plain numbers of layer 6: the last number of a line. What number of the document's answers of layer 6 comes to. Plain numbers of layer 6: the bytes of a line. Plain numbers of layer 6: the bytes of lines, one behind the other; strings that lie in memory. What word of the document's answers of layer 6 comes to: the n-th of words with blanks between; the names. What means of the document's answers of layer 6 comes to. -/
import Derived.Test.YtlchkflpaehgcabDoorCb
import Derived.Test.YtlchkflpaehgcabDoorCa
import Derived.Deep.RegionHeld3
namespace Go.Proofs.YtlchkflpaehgcabDoor
open Go.RowKit
set_option linter.unusedVariables false
set_option linter.unusedSimpArgs false

def sg (s : ByteArray) (k : Nat) : Int := ((s.data.toList.getD k 0).toNat : Int)
theorem sg_get (s : ByteArray) (k : Nat) (h : k < s.size) : sg s k = ((s[k]'h).toNat : Int) := by
  unfold sg
  have h2 : k < s.data.toList.length := by simpa using h
  rw [List.getD_eq_getElem?_getD, List.getElem?_eq_getElem h2]
  rfl
theorem sign_run (s : ByteArray) (k : Nat) (c : Int) (h : k < s.size) (e : sg s k = c) : ∀ u, (Instr.index 9 (.string s) (.int .i64 (k : Int))).run Tryd.prog u = .ok (.int .u8 c) u := by
  intro u
  rw [run_index_string u 9 s .i64 (k : Int) (by kernel_rfl), dif_pos ⟨by omega, by omega⟩, ← e, sg_get s k h]
  rfl
def onOf (op : Int) (k : Nat) : Int := if bitOf op (7 - (k : Int)) then 1 else 0
def fx (s : ByteArray) (op : Int) : Nat → Int
  | 0 => 0
  | k + 1 => if sg s k = 120 then 2 * fx s op k + (if bitOf op (7 - (k : Int)) then 1 else 0) else fx s op k
def fy (s : ByteArray) (op : Int) : Nat → Int
  | 0 => 0
  | k + 1 => if sg s k = 121 then 2 * fy s op k + (if bitOf op (7 - (k : Int)) then 1 else 0) else fy s op k
def fok (s : ByteArray) (op : Int) : Nat → Bool
  | 0 => true
  | k + 1 => fok s op k && (if sg s k = 48 then !bitOf op (7 - (k : Int)) else if sg s k = 49 then bitOf op (7 - (k : Int)) else true)
theorem fok_no (s : ByteArray) (op : Int) (k n : Nat) (h : k ≤ n) (hk : fok s op k = false) : fok s op n = false := by
  induction n with
  | zero => obtain rfl : k = 0 := by omega
            exact hk
  | succ n ih =>
    by_cases e : k = n + 1
    · rw [← e]; exact hk
    · simp [fok, ih (by omega)]
theorem fx_bd (s : ByteArray) (op : Int) (k : Nat) : 0 ≤ fx s op k ∧ fx s op k < 2 ^ k := by
  induction k with
  | zero => exact ⟨Int.le_refl 0, (by decide : (0 : Int) < 1)⟩
  | succ k ih =>
    unfold fx
    rw [Int.pow_succ]
    split
    · split <;> omega
    · omega
theorem fy_bd (s : ByteArray) (op : Int) (k : Nat) : 0 ≤ fy s op k ∧ fy s op k < 2 ^ k := by
  induction k with
  | zero => exact ⟨Int.le_refl 0, (by decide : (0 : Int) < 1)⟩
  | succ k ih =>
    unfold fy
    rw [Int.pow_succ]
    split
    · split <;> omega
    · omega
theorem pw_bd (k : Nat) (h : k < 8) : (2 : Int) ^ k ≤ 128 := by
  have c : k = 0 ∨ k = 1 ∨ k = 2 ∨ k = 3 ∨ k = 4 ∨ k = 5 ∨ k = 6 ∨ k = 7 := by omega
  rcases c with rfl | rfl | rfl | rfl | rfl | rfl | rfl | rfl <;> decide
end Go.Proofs.YtlchkflpaehgcabDoor
namespace Go.Proofs.YtlchkflpaehgcabDoor
open Go.RowKit
set_option linter.unusedVariables false
set_option linter.unusedSimpArgs false

def lastAt (s : ByteArray) : Nat → Int
  | 0 => -1
  | k + 1 => if sg s k = 36 then (k : Int) else lastAt s k
def dollar (s : ByteArray) : Int := lastAt s s.size
theorem lastAt_bd (s : ByteArray) (k : Nat) : -1 ≤ lastAt s k ∧ lastAt s k < (k : Int) := by
  induction k with
  | zero => exact ⟨(by decide : (-1 : Int) ≤ -1), (by decide : (-1 : Int) < 0)⟩
  | succ k ih =>
    unfold lastAt
    split
    · omega
    · omega
def num4 (s : ByteArray) : ByteArray := s.extract ((dollar s).toNat + 1) ((dollar s).toNat + 5)
def num2 (s : ByteArray) : ByteArray := s.extract ((dollar s).toNat + 1) ((dollar s).toNat + 3)
def numLo (s : ByteArray) : Int := if dollar s < 0 then 0 else if dollar s + 5 ≤ (s.size : Int) ∧ readErr (num4 s) 4 = 0 then readVal (num4 s) 4 % 256 else if dollar s + 3 ≤ (s.size : Int) then readVal (num2 s) 2 % 256 else 0
def numHi (s : ByteArray) : Int := if dollar s < 0 then 0 else if dollar s + 5 ≤ (s.size : Int) ∧ readErr (num4 s) 4 = 0 then readVal (num4 s) 4 / 256 else 0
theorem rv_bd (t : ByteArray) (d : Int) (h : d = 4 ∨ d = 2) : 0 ≤ readVal t d ∧ readVal t d ≤ 65535 := by
  unfold readVal
  rw [if_neg (by omega)]
  split
  · omega
  · rename_i q
    have h4 : t.size ≤ 4 := by omega
    unfold finVal
    split
    · have a := acc_bd t t.size
      have : t.size = 0 ∨ t.size = 1 ∨ t.size = 2 ∨ t.size = 3 ∨ t.size = 4 := by omega
      rcases this with e | e | e | e | e <;> rw [e] at a ⊢ <;> omega
    · omega
theorem num_bd (s : ByteArray) : (0 ≤ numLo s ∧ numLo s ≤ 255) ∧ 0 ≤ numHi s ∧ numHi s ≤ 255 := by
  have b4 := rv_bd (num4 s) 4 (.inl rfl)
  have b2 := rv_bd (num2 s) 2 (.inr rfl)
  constructor
  · unfold numLo
    split
    · omega
    · split
      · omega
      · split <;> omega
  · unfold numHi
    split
    · omega
    · split <;> omega
end Go.Proofs.YtlchkflpaehgcabDoor
namespace Go.Proofs.YtlchkflpaehgcabDoor
open Go.RowKit
set_option linter.unusedVariables false
set_option linter.unusedSimpArgs false

theorem ext_le (s : ByteArray) (a b : Nat) : (s.extract a b).size ≤ b - a := by rw [ByteArray.size_extract]; omega
end Go.Proofs.YtlchkflpaehgcabDoor
namespace Go.Proofs.YtlchkflpaehgcabDoor
open Go.RowKit
set_option linter.unusedVariables false
set_option linter.unusedSimpArgs false

def asmHit (s : ByteArray) (lo hi : Int) (k : Nat) : Option (List Int) :=
  if ((decOf (k : Int)).kind != 6 && ((lineOf (k : Int) false lo hi).toList == s.toList)) = true then some ([(k : Int), lo, hi].take (decOf (k : Int)).bytes.toNat)
  else if ((lineOf (k : Int) true 0 0).toList == s.toList) = true then some [203, (k : Int)] else none
def asmTo (s : ByteArray) (lo hi : Int) : Nat → Option (List Int)
  | 0 => none
  | k + 1 => match asmTo s lo hi k with
    | some r => some r
    | none => asmHit s lo hi k
def asmOf (s : ByteArray) : Option (List Int) := if (s.toList == (dbS (numLo s)).toList) = true then some [numLo s] else asmTo s (numLo s) (numHi s) 256
def asmB (s : ByteArray) : List Int := (asmOf s).getD []
def asmE (s : ByteArray) : Int := (asmOf s).elim 6 (fun _ => 0)
theorem asmTo_le (s : ByteArray) (lo hi : Int) (r : List Int) (k n : Nat) (h : k ≤ n) (hk : asmTo s lo hi k = some r) : asmTo s lo hi n = some r := by
  induction n with
  | zero => obtain rfl : k = 0 := by omega
            exact hk
  | succ n ih =>
    by_cases e : k = n + 1
    · rw [← e]; exact hk
    · simp [asmTo, ih (by omega)]
theorem asm_db (s : ByteArray) (h : (s.toList == (dbS (numLo s)).toList) = true) : asmB s = [numLo s] ∧ asmE s = 0 := by
  simp [asmB, asmE, asmOf, h]
theorem asm_none (s : ByteArray) (h : (s.toList == (dbS (numLo s)).toList) = false) (hn : asmTo s (numLo s) (numHi s) 256 = none) : asmB s = [] ∧ asmE s = 6 := by
  simp [asmB, asmE, asmOf, h, hn]
theorem asm_hit (s : ByteArray) (k : Nat) (r : List Int) (h : (s.toList == (dbS (numLo s)).toList) = false) (hk : k < 256) (hn : asmTo s (numLo s) (numHi s) k = none) (hh : asmHit s (numLo s) (numHi s) k = some r) : asmB s = r ∧ asmE s = 0 := by
  have e : asmTo s (numLo s) (numHi s) 256 = some r := asmTo_le _ _ _ _ (k + 1) 256 (by omega) (by simp [asmTo, hn, hh])
  simp [asmB, asmE, asmOf, h, e]
theorem own3 (w : World) (base g : Nat) (e : TypeId) (c : Array Value) (n : Nat) (hg : w.heap[g]? = some (.cells c e (0, 0))) (hb : base ≤ g) (hn : n ≤ c.size) (hm : c.size ≤ maxLen) : w.ownsRow base e 1 (.slice (some ⟨g, 0, none⟩) n c.size) n (c.toList.take n) :=
  ⟨by simp; omega, .inr ⟨g, c.size, c, rfl, hb, hg, hn, hm, by simp, by simp⟩⟩
theorem heap_new (w : World) (o : Obj) : (w.alloc o).heap[w.heap.size]? = some o := by show (w.heap.push o)[w.heap.size]? = some o; simp
end Go.Proofs.YtlchkflpaehgcabDoor
namespace Go.Proofs.YtlchkflpaehgcabDoor
open Go.RowKit
set_option linter.unusedVariables false
set_option linter.unusedSimpArgs false

theorem hit_len (s : ByteArray) (lo hi : Int) (k : Nat) (r : List Int) (hk : k < 256) (h : asmHit s lo hi k = some r) : 1 ≤ r.length ∧ r.length ≤ 3 := by
  have bo := bytes_of (k : Int) (by omega) (by omega)
  unfold asmHit at h
  split at h
  · rw [← Option.some.inj h]
    rcases bo with b | b | b <;> rw [b] <;> simp
  · split at h
    · rw [← Option.some.inj h]; simp
    · cases h
theorem to_len (s : ByteArray) (lo hi : Int) (r : List Int) (k : Nat) (hk : k ≤ 256) (h : asmTo s lo hi k = some r) : 1 ≤ r.length ∧ r.length ≤ 3 := by
  induction k with
  | zero => cases h
  | succ k ih =>
    unfold asmTo at h
    split at h
    · rename_i r2 e
      rw [← Option.some.inj h]
      rw [← Option.some.inj h] at ih
      exact ih (by omega) e
    · exact hit_len s lo hi k r (by omega) h
theorem asm_len (s : ByteArray) : (asmE s = 0 ∧ 1 ≤ (asmB s).length ∧ (asmB s).length ≤ 3) ∨ asmE s = 6 := by
  unfold asmE asmB
  cases h : asmOf s with
  | none => exact .inr rfl
  | some r =>
    refine .inl ⟨rfl, ?_⟩
    unfold asmOf at h
    split at h
    · rw [← Option.some.inj h]; simp
    · exact to_len _ _ _ r 256 (Nat.le_refl _) h
def allOk (ss : List ByteArray) : Bool := ss.all (fun s => asmE s == 0)
def allB (ss : List ByteArray) : List Int := if allOk ss then ss.flatMap asmB else []
def allE (ss : List ByteArray) : Int := if allOk ss then 0 else 6
def SRow (w : World) (a : Option Addr) (ss : List ByteArray) : Prop :=
  (∀ s ∈ ss, s.size ≤ 4611686018427387904) ∧ (ss = [] ∨ ∃ x : Addr, a = some x ∧ x.block < w.heap.size ∧ ∀ i, i < ss.length → w.cell? (x.add i) = some (.string (ss.getD i ByteArray.empty)))
theorem srow_kept {W w : World} (g : Kept W w) {a : Option Addr} {ss : List ByteArray} (h : SRow W a ss) : SRow w a ss := by
  obtain ⟨h2, h3⟩ := h
  refine ⟨h2, ?_⟩
  rcases h3 with h3 | ⟨x, e, hx, hc⟩
  · exact .inl h3
  · exact .inr ⟨x, e, Nat.lt_of_lt_of_le hx g.size, fun i hi => by rw [g.cell (x := x.add i) (by rw [addB]; exact hx)]; exact hc i hi⟩
def outTo (ss : List ByteArray) (k : Nat) : List Int := (ss.take k).flatMap asmB
def okTill (ss : List ByteArray) (k : Nat) : Prop := ∀ j, j < k → asmE (ss.getD j ByteArray.empty) = 0
theorem getD_get (ss : List ByteArray) (k : Nat) (h : k < ss.length) : ss.getD k ByteArray.empty = ss[k] := by
  rw [List.getD_eq_getElem?_getD, List.getElem?_eq_getElem h]; rfl
theorem out_step (ss : List ByteArray) (k : Nat) (h : k < ss.length) : outTo ss (k + 1) = outTo ss k ++ asmB (ss.getD k ByteArray.empty) := by
  unfold outTo
  rw [List.take_add_one, List.getElem?_eq_getElem h, getD_get ss k h, List.flatMap_append]
  simp [Option.toList]
theorem out_len (ss : List ByteArray) (k : Nat) (hk : k ≤ ss.length) (h : okTill ss k) : (outTo ss k).length ≤ 3 * k := by
  induction k with
  | zero => simp [outTo]
  | succ k ih =>
    have i := ih (by omega) (fun j hj => h j (by omega))
    rw [out_step ss k (by omega), List.length_append]
    rcases asm_len (ss.getD k ByteArray.empty) with ⟨_, _, l⟩ | e
    · omega
    · have := h k (by omega); omega
theorem all_yes (ss : List ByteArray) (h : okTill ss ss.length) : allB ss = outTo ss ss.length ∧ allE ss = 0 := by
  have k : allOk ss = true := by
    unfold allOk
    rw [List.all_eq_true]
    intro s hs
    obtain ⟨j, hj, rfl⟩ := List.getElem_of_mem hs
    have := h j hj
    rw [getD_get ss j hj] at this
    simp [this]
  simp [allB, allE, k, outTo]
theorem all_no (ss : List ByteArray) (k : Nat) (hk : k < ss.length) (h : asmE (ss.getD k ByteArray.empty) = 6) : allB ss = [] ∧ allE ss = 6 := by
  have q : allOk ss = false := by
    unfold allOk
    rw [List.all_eq_false]
    refine ⟨ss[k], List.getElem_mem hk, ?_⟩
    rw [getD_get ss k hk] at h
    simp [h]
  simp [allB, allE, q]
end Go.Proofs.YtlchkflpaehgcabDoor
namespace Go.Proofs.YtlchkflpaehgcabDoor
open Go.RowKit
set_option linter.unusedVariables false
set_option linter.unusedSimpArgs false

def en (s : ByteArray) (a : Nat) : Nat := a + ((s.data.toList.drop a).takeWhile (fun c => c != 32)).length
def st (s : ByteArray) : Nat → Nat
  | 0 => 0
  | k + 1 => en s (st s k) + 1
theorem sg_cons (s : ByteArray) (a : Nat) (h : a < s.size) : ∃ c : UInt8, s.data.toList.drop a = c :: s.data.toList.drop (a + 1) ∧ sg s a = (c.toNat : Int) := by
  have h2 : a < s.data.toList.length := by simpa using h
  refine ⟨s.data.toList[a], List.drop_eq_getElem_cons h2, ?_⟩
  rw [sg_get s a h]
  rfl
theorem u8_32 (c : UInt8) : (c.toNat : Int) = 32 ↔ c = 32 := by
  constructor
  · intro h
    have : c.toNat = 32 := by omega
    exact UInt8.toNat.inj this
  · rintro rfl; rfl
theorem en_step (s : ByteArray) (a : Nat) (h : a < s.size) (hc : ¬ sg s a = 32) : en s a = en s (a + 1) := by
  obtain ⟨c, e, q⟩ := sg_cons s a h
  rw [q, u8_32] at hc
  unfold en
  rw [e, List.takeWhile_cons, if_pos (by simp [hc])]
  simp; omega
theorem en_stop (s : ByteArray) (a : Nat) (h : ¬ (a < s.size ∧ ¬ sg s a = 32)) : en s a = a := by
  unfold en
  by_cases l : a < s.size
  · obtain ⟨c, e, q⟩ := sg_cons s a l
    have hc : sg s a = 32 := Classical.byContradiction fun n => h ⟨l, n⟩
    rw [q, u8_32] at hc
    rw [e, List.takeWhile_cons, if_neg (by simp [hc])]
    rfl
  · rw [List.drop_eq_nil_of_le (by simpa using l)]
    rfl
theorem en_ge (s : ByteArray) (a : Nat) : a ≤ en s a := by unfold en; omega
theorem reg_st : ∀ k : Fin 8, st ⟨#[66, 32, 67, 32, 68, 32, 69, 32, 72, 32, 76, 32, 40, 72, 76, 41, 32, 65]⟩ k.val ≤ (⟨#[66, 32, 67, 32, 68, 32, 69, 32, 72, 32, 76, 32, 40, 72, 76, 41, 32, 65]⟩ : ByteArray).size := by decide +kernel
theorem reg_wd : ∀ k : Fin 8, (⟨#[66, 32, 67, 32, 68, 32, 69, 32, 72, 32, 76, 32, 40, 72, 76, 41, 32, 65]⟩ : ByteArray).extract (st ⟨#[66, 32, 67, 32, 68, 32, 69, 32, 72, 32, 76, 32, 40, 72, 76, 41, 32, 65]⟩ k.val) (en ⟨#[66, 32, 67, 32, 68, 32, 69, 32, 72, 32, 76, 32, 40, 72, 76, 41, 32, 65]⟩ (st ⟨#[66, 32, 67, 32, 68, 32, 69, 32, 72, 32, 76, 32, 40, 72, 76, 41, 32, 65]⟩ k.val)) = bs (regL.getD k.val []) := by decide +kernel
theorem pair_st : ∀ k : Fin 5, st ⟨#[66, 67, 32, 68, 69, 32, 72, 76, 32, 83, 80, 32, 65, 70]⟩ k.val ≤ (⟨#[66, 67, 32, 68, 69, 32, 72, 76, 32, 83, 80, 32, 65, 70]⟩ : ByteArray).size := by decide +kernel
theorem pair_wd : ∀ k : Fin 5, (⟨#[66, 67, 32, 68, 69, 32, 72, 76, 32, 83, 80, 32, 65, 70]⟩ : ByteArray).extract (st ⟨#[66, 67, 32, 68, 69, 32, 72, 76, 32, 83, 80, 32, 65, 70]⟩ k.val) (en ⟨#[66, 67, 32, 68, 69, 32, 72, 76, 32, 83, 80, 32, 65, 70]⟩ (st ⟨#[66, 67, 32, 68, 69, 32, 72, 76, 32, 83, 80, 32, 65, 70]⟩ k.val)) = bs (pairL.getD k.val []) := by decide +kernel
theorem cond_st : ∀ k : Fin 4, st ⟨#[78, 90, 32, 90, 32, 78, 67, 32, 67]⟩ k.val ≤ (⟨#[78, 90, 32, 90, 32, 78, 67, 32, 67]⟩ : ByteArray).size := by decide +kernel
theorem cond_wd : ∀ k : Fin 4, (⟨#[78, 90, 32, 90, 32, 78, 67, 32, 67]⟩ : ByteArray).extract (st ⟨#[78, 90, 32, 90, 32, 78, 67, 32, 67]⟩ k.val) (en ⟨#[78, 90, 32, 90, 32, 78, 67, 32, 67]⟩ (st ⟨#[78, 90, 32, 90, 32, 78, 67, 32, 67]⟩ k.val)) = bs (condL.getD k.val []) := by decide +kernel
theorem oper_st : ∀ k : Fin 8, st ⟨#[65, 68, 68, 32, 65, 68, 67, 32, 83, 85, 66, 32, 83, 66, 67, 32, 65, 78, 68, 32, 88, 79, 82, 32, 79, 82, 32, 67, 80]⟩ k.val ≤ (⟨#[65, 68, 68, 32, 65, 68, 67, 32, 83, 85, 66, 32, 83, 66, 67, 32, 65, 78, 68, 32, 88, 79, 82, 32, 79, 82, 32, 67, 80]⟩ : ByteArray).size := by decide +kernel
theorem oper_wd : ∀ k : Fin 8, (⟨#[65, 68, 68, 32, 65, 68, 67, 32, 83, 85, 66, 32, 83, 66, 67, 32, 65, 78, 68, 32, 88, 79, 82, 32, 79, 82, 32, 67, 80]⟩ : ByteArray).extract (st ⟨#[65, 68, 68, 32, 65, 68, 67, 32, 83, 85, 66, 32, 83, 66, 67, 32, 65, 78, 68, 32, 88, 79, 82, 32, 79, 82, 32, 67, 80]⟩ k.val) (en ⟨#[65, 68, 68, 32, 65, 68, 67, 32, 83, 85, 66, 32, 83, 66, 67, 32, 65, 78, 68, 32, 88, 79, 82, 32, 79, 82, 32, 67, 80]⟩ (st ⟨#[65, 68, 68, 32, 65, 68, 67, 32, 83, 85, 66, 32, 83, 66, 67, 32, 65, 78, 68, 32, 88, 79, 82, 32, 79, 82, 32, 67, 80]⟩ k.val)) = bs (operL.getD k.val []) := by decide +kernel
theorem shift_st : ∀ k : Fin 8, st ⟨#[82, 76, 67, 32, 82, 82, 67, 32, 82, 76, 32, 82, 82, 32, 83, 76, 65, 32, 83, 82, 65, 32, 83, 87, 65, 80, 32, 83, 82, 76]⟩ k.val ≤ (⟨#[82, 76, 67, 32, 82, 82, 67, 32, 82, 76, 32, 82, 82, 32, 83, 76, 65, 32, 83, 82, 65, 32, 83, 87, 65, 80, 32, 83, 82, 76]⟩ : ByteArray).size := by decide +kernel
theorem shift_wd : ∀ k : Fin 8, (⟨#[82, 76, 67, 32, 82, 82, 67, 32, 82, 76, 32, 82, 82, 32, 83, 76, 65, 32, 83, 82, 65, 32, 83, 87, 65, 80, 32, 83, 82, 76]⟩ : ByteArray).extract (st ⟨#[82, 76, 67, 32, 82, 82, 67, 32, 82, 76, 32, 82, 82, 32, 83, 76, 65, 32, 83, 82, 65, 32, 83, 87, 65, 80, 32, 83, 82, 76]⟩ k.val) (en ⟨#[82, 76, 67, 32, 82, 82, 67, 32, 82, 76, 32, 82, 82, 32, 83, 76, 65, 32, 83, 82, 65, 32, 83, 87, 65, 80, 32, 83, 82, 76]⟩ (st ⟨#[82, 76, 67, 32, 82, 82, 67, 32, 82, 76, 32, 82, 82, 32, 83, 76, 65, 32, 83, 82, 65, 32, 83, 87, 65, 80, 32, 83, 82, 76]⟩ k.val)) = bs (shiftL.getD k.val []) := by decide +kernel
theorem quad_st : ∀ k : Fin 4, st ⟨#[40, 66, 67, 41, 32, 40, 68, 69, 41, 32, 40, 72, 76, 43, 41, 32, 40, 72, 76, 45, 41]⟩ k.val ≤ (⟨#[40, 66, 67, 41, 32, 40, 68, 69, 41, 32, 40, 72, 76, 43, 41, 32, 40, 72, 76, 45, 41]⟩ : ByteArray).size := by decide +kernel
theorem quad_wd : ∀ k : Fin 4, (⟨#[40, 66, 67, 41, 32, 40, 68, 69, 41, 32, 40, 72, 76, 43, 41, 32, 40, 72, 76, 45, 41]⟩ : ByteArray).extract (st ⟨#[40, 66, 67, 41, 32, 40, 68, 69, 41, 32, 40, 72, 76, 43, 41, 32, 40, 72, 76, 45, 41]⟩ k.val) (en ⟨#[40, 66, 67, 41, 32, 40, 68, 69, 41, 32, 40, 72, 76, 43, 41, 32, 40, 72, 76, 45, 41]⟩ (st ⟨#[40, 66, 67, 41, 32, 40, 68, 69, 41, 32, 40, 72, 76, 43, 41, 32, 40, 72, 76, 45, 41]⟩ k.val)) = bs (quadL.getD k.val []) := by decide +kernel
end Go.Proofs.YtlchkflpaehgcabDoor
namespace Go.Proofs.YtlchkflpaehgcabDoor
open Go.RowKit
set_option linter.unusedVariables false
set_option linter.unusedSimpArgs false

theorem rB_plain (lo hi : Int) (l : List Nat) (h : l.all (fun t => decide (t < 256)) = true) : rB lo hi l = bs l := by
  have e : render lo hi l = l.map UInt8.ofNat := by
    induction l with
    | nil => rfl
    | cons a l ih =>
      simp only [List.all_cons, Bool.and_eq_true, decide_eq_true_eq] at h
      have r := ih h.2
      have r1 : rtok lo hi a = [UInt8.ofNat a] := by unfold rtok; rw [if_neg (by omega), if_neg (by omega)]
      simp only [render, List.flatMap_cons, List.map_cons, r1] at *
      rw [r]; rfl
  unfold rB bs
  rw [e]
theorem hexT_back (v : Int) : (hexT v).map UInt8.ofNat = (hex8Of v).data.toList := by
  simp [hexT, Function.comp_def]
theorem hexT_small (v : Int) : (36 :: hexT v).all (fun t => decide (t < 256)) = true := by
  rw [List.all_eq_true]
  intro t ht
  rcases List.mem_cons.1 ht with rfl | h
  · decide
  · obtain ⟨u, _, rfl⟩ := List.mem_map.1 h
    simp [u.toNat_lt]
theorem rB_hex (lo hi v : Int) : rB lo hi (36 :: hexT v) = ⟨#[36]⟩ ++ hex8Of v := by
  rw [rB_plain lo hi _ (hexT_small v)]
  apply ByteArray.ext
  simp [bs, hexT_back]
theorem rB_b (lo hi : Int) : rB lo hi [256] = ⟨#[36]⟩ ++ hex8Of lo := by
  apply ByteArray.ext
  simp [rB, render, rtok]
theorem rB_w (lo hi : Int) : rB lo hi [257] = ⟨#[36]⟩ ++ hex16Of (hi * 256 + lo) := by
  apply ByteArray.ext
  simp [rB, render, rtok]
theorem getD_mem (L : List (List Nat)) (n : Nat) : L.getD n [] = [] ∨ L.getD n [] ∈ L := by
  rw [List.getD_eq_getElem?_getD]
  cases h : L[n]? with
  | none => exact .inl rfl
  | some x => exact .inr (List.mem_of_getElem? h)
theorem getD_all (L : List (List Nat)) (n : Nat) (h : L.all (fun l => l.all (fun t => decide (t < 256)) && decide (l.length ≤ 5)) = true) : (L.getD n []).all (fun t => decide (t < 256)) = true ∧ (L.getD n []).length ≤ 5 := by
  rcases getD_mem L n with e | e
  · rw [e]; exact ⟨rfl, by decide⟩
  · have := List.all_eq_true.1 h _ e
    simp only [Bool.and_eq_true, decide_eq_true_eq] at this
    exact this
def meansOk (f : Fm) (c : Nat) : Bool :=
  (c == 114 && decide (0 ≤ f.x) && decide (f.x < 8)) ||
  (c == 115 && decide (0 ≤ f.y) && decide (f.y < 8)) ||
  (c == 112 && decide (0 ≤ f.x) && decide (f.x < 5)) ||
  (c == 110 && decide (0 ≤ f.x) && decide (f.x < 4)) ||
  (c == 113 && decide (0 ≤ f.x) && decide (f.x < 4)) ||
  (c == 97 && decide (0 ≤ f.x) && decide (f.x < 8)) ||
  (c == 104 && decide (0 ≤ f.x) && decide (f.x < 8)) ||
  (c == 120 && decide (0 ≤ f.x) && decide (f.x < 8)) || (c == 101 && decide (0 ≤ f.x) && decide (f.x < 8)) || c == 111 || c == 98 || c == 119
end Go.Proofs.YtlchkflpaehgcabDoor
