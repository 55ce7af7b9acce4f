/- Layer 20's memories as one list of bytes: plain, and where they lie. -/
import Derived.Test.YtfndpikcodjajabDoorPb20a
import Derived.Test.YtfndpikcodjajabDoorConv7
namespace Go.Proofs.YtfndpikcodjajabDoor
open Go.RowKit
set_option linter.unusedVariables false
set_option linter.unusedSimpArgs false

/-- The memories, one behind the other: 8192 bytes of tiles, 8192 of work, 160 of objects, 127 high ones. -/
def keepR (r : Int) : Bool := r == 1 || r == 3 || r == 4 || r == 7
def oNat (r : Int) : Nat := if r = 1 then 0 else if r = 3 then 8192 else if r = 4 then 16384 else 16544
def nNat (r : Int) : Nat := if r = 1 then 8192 else if r = 3 then 8192 else if r = 4 then 160 else 127
def plN (a : Int) : Nat := oNat (regP a) + (atP20 a).toNat
def getP (M : List Int) (a : Int) : Int := if keepR (regP a) = true then M.getD (plN a) 0 else 255
def putP (M : List Int) (a v : Int) : List Int := if keepR (regP a) = true then M.set (plN a) v else M
def objP20 (M : List Int) (i v : Int) : List Int := if i < 160 then M.set (16384 + i.toNat) v else M
def M0 : List Int := List.replicate 16671 0
def memL (made : Bool) (M : List Int) : List Value := .bool made :: M.map (Value.int .u8)
theorem keep_cases {r : Int} (h : keepR r = true) : r = 1 ∨ r = 3 ∨ r = 4 ∨ r = 7 := by
  unfold keepR at h
  simp only [Bool.or_eq_true, beq_iff_eq] at h
  omega
theorem keep_not {r : Int} (h : keepR r = false) : r ≠ 1 ∧ r ≠ 3 ∧ r ≠ 4 ∧ r ≠ 7 := by
  unfold keepR at h
  simp only [Bool.or_eq_false_iff, beq_eq_false_iff_ne] at h
  omega
theorem at_lt (a : Int) (a0 : 0 ≤ a) (a1 : a ≤ 65535) (h : keepR (regP a) = true) : (atP20 a).toNat < nNat (regP a) := by
  unfold regP atP20 at *
  rcases rw_cases a a0 a1 with ⟨e, q0, q1⟩ | ⟨e, q0, q1⟩ | ⟨e, q0, q1⟩ | ⟨e, q0, q1⟩ | ⟨e, q0, q1⟩ | ⟨e, q0, q1⟩ | ⟨e, q0, q1⟩ | ⟨e, q0, q1⟩ | ⟨e, q0, q1⟩ | ⟨e, q0, q1⟩
  all_goals rw [e] at h ⊢
  · exact absurd h (by decide)
  · show (a - 32768).toNat < 8192; omega
  · exact absurd h (by decide)
  · show (a - 49152).toNat < 8192; omega
  · show (a - 57344).toNat < 8192; omega
  · show (a - 65024).toNat < 160; omega
  · exact absurd h (by decide)
  · exact absurd h (by decide)
  · show (a - 65408).toNat < 127; omega
  · exact absurd h (by decide)
theorem on_le {r : Int} (h : keepR r = true) : oNat r + nNat r ≤ 16671 := by
  rcases keep_cases h with rfl | rfl | rfl | rfl <;> decide
theorem pl_lt (a : Int) (a0 : 0 ≤ a) (a1 : a ≤ 65535) (h : keepR (regP a) = true) : plN a < 16671 := by
  have := at_lt a a0 a1 h
  have := on_le h
  unfold plN
  omega
theorem at_nat (a : Int) (a0 : 0 ≤ a) (a1 : a ≤ 65535) : atP20 a = ((atP20 a).toNat : Int) := by have := (at_in a a0 a1).1; omega
theorem put_len (M : List Int) (a v : Int) : (putP M a v).length = M.length := by unfold putP; split <;> simp
theorem obj_len20 (M : List Int) (i v : Int) : (objP20 M i v).length = M.length := by unfold objP20; split <;> simp
theorem set_in20 {l : List Int} (h : ∀ x ∈ l, InByte x) {a : Int} (ha : InByte a) (k : Nat) : ∀ x ∈ l.set k a, InByte x := fun x hx => by
  rcases List.mem_or_eq_of_mem_set hx with q | q
  · exact h x q
  · rw [q]; exact ha
theorem put_in20 {M : List Int} (h : ∀ x ∈ M, InByte x) {v : Int} (hv : InByte v) (a : Int) : ∀ x ∈ putP M a v, InByte x := by
  unfold putP; split
  · exact set_in20 h hv _
  · exact h
theorem obj_in20 {M : List Int} (h : ∀ x ∈ M, InByte x) {v : Int} (hv : InByte v) (i : Int) : ∀ x ∈ objP20 M i v, InByte x := by
  unfold objP20; split
  · exact set_in20 h hv _
  · exact h
theorem get_in20 {M : List Int} (h : ∀ x ∈ M, InByte x) (a : Int) : InByte (getP M a) := by
  unfold getP; split
  · rw [List.getD_eq_getElem?_getD]
    cases q : M[plN a]? with
    | none => exact ⟨by decide, by decide⟩
    | some x => exact h x (List.mem_of_getElem? q)
  · exact ⟨by decide, by decide⟩
theorem M0_len : M0.length = 16671 := List.length_replicate
theorem M0_in : ∀ x ∈ M0, InByte x := fun x hx => by rw [(List.mem_replicate.1 hx).2]; exact ⟨by decide, by decide⟩
theorem memL_len {m : Bool} {M : List Int} (h : M.length = 16671) : (memL m M).length = 16672 := by simp [memL, h]
theorem memL_at {m : Bool} {M : List Int} (h : M.length = 16671) (i : Nat) (hi : i < 16671) : (memL m M)[1 + i]? = some (.int .u8 (M.getD i 0)) := by
  rw [Nat.add_comm]
  show (M.map (Value.int .u8))[i]? = _
  rw [List.getElem?_map, List.getElem?_eq_getElem (by omega), List.getD_eq_getElem?_getD, List.getElem?_eq_getElem (by omega)]
  rfl
theorem memL_set {m : Bool} {M : List Int} (i : Nat) (v : Int) : (memL m M).set (1 + i) (.int .u8 v) = memL m (M.set i v) := by
  rw [Nat.add_comm]
  show _ :: (M.map (Value.int .u8)).set i _ = _ :: _
  rw [List.map_set]
/-- A memory that New gave. -/
structure MemAt (w : World) (b : Nat) (M : List Int) : Prop where
  blk : Blk w b 29 (memL true M)
  len : M.length = 16671
  byt : ∀ x ∈ M, InByte x
  far : 0 < b
theorem mem_kept {W w : World} {b : Nat} {M : List Int} (h : MemAt W b M) (k : Kept W w) : MemAt w b M := ⟨blk_kept k h.blk, h.len, h.byt, h.far⟩
theorem mem_X {F : Nat → Prop} {W w : World} {b : Nat} {M : List Int} (h : MemAt W b M) (k : KeptX F W w) (hF : ¬ F b) : MemAt w b M := ⟨blkX k h.blk hF, h.len, h.byt, h.far⟩
theorem lay_X {W w : World} {b : Nat} (h : Lay20 W) (k : KeptX (fun j => j = b) W w) (hb : 0 < b) : Lay20 w := lay20_X h k (fun e => by have : 0 = b := e; omega)
/-- A part of the memories, as a row. -/
theorem mem_row {w : World} {b : Nat} {M : List Int} (h : MemAt w b M) (o n : Nat) (hn : o + n ≤ 16671) : Row w (some ⟨b, 1 + o, none⟩) ((M.drop o).take n) := by
  have hl := h.len
  have ll : ((M.drop o).take n).length = n := by rw [List.length_take, List.length_drop]; omega
  refine ⟨by rw [ll]; unfold maxLen; omega, fun x hx => h.byt x (List.mem_of_mem_drop (List.mem_of_mem_take hx)), .inr ⟨_, rfl, blk_lt h.blk, fun i hi => ?_⟩⟩
  rw [ll] at hi
  have e : (⟨b, 1 + o, none⟩ : Addr).add i = ⟨b, 1 + (o + i), none⟩ := by
    unfold Addr.add
    split
    · rename_i q; have : i = 0 := by simpa using q
      subst this; rfl
    · simp; omega
  rw [e, blk_cell h.blk, memL_at hl _ (by omega)]
  rw [List.getD_eq_getElem?_getD, List.getD_eq_getElem?_getD, List.getElem?_take, if_pos hi, List.getElem?_drop]
end Go.Proofs.YtfndpikcodjajabDoor
