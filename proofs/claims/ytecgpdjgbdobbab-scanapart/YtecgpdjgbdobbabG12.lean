/- The making of an image, step by step: plain lists, and what a row of the call's own is good for. -/
import Derived.Test.YtecgpdjgbdobbabG11
import Derived.Laws.AppendOwnNone
namespace Go.Proofs.Ytecgpdjgbdobbab
open Go.RowKit
set_option linter.unusedVariables false
set_option linter.unusedSimpArgs false

def loopF (t : List Int) (k i : Nat) : Int :=
  if i = 257 then 195 else if i = 258 then 80 else if i = 259 then 1 else if 308 ≤ i ∧ i < 308 + k then t.getD (i - 308) 0 else 0
def loopL (t : List Int) (k : Nat) : List Int := (List.range 336).map (loopF t k)
theorem loopL_len (t : List Int) (k : Nat) : (loopL t k).length = 336 := by simp [loopL]
theorem loop_start (t : List Int) : (((List.replicate 336 (0 : Int)).set 257 195).set 258 80).set 259 1 = loopL t 0 := by
  refine List.ext_getElem (by rw [List.length_set, List.length_set, List.length_set, List.length_replicate, loopL_len]) (fun i h1 h2 => ?_)
  simp only [List.getElem_set, loopL, List.getElem_map, List.getElem_range, loopF, List.getElem_replicate]
  repeat' split
  all_goals first | rfl | omega
theorem loop_step (t : List Int) (k : Nat) (hk : k < 16) : (loopL t k).set (308 + k) (t.getD k 0) = loopL t (k + 1) := by
  refine List.ext_getElem (by simp [loopL]) (fun i h1 h2 => ?_)
  simp only [List.getElem_set, loopL, List.getElem_map, List.getElem_range, loopF]
  by_cases q : 308 + k = i
  · subst q
    rw [if_pos rfl, if_neg (by omega), if_neg (by omega), if_neg (by omega), if_pos (by omega), Nat.add_sub_cancel_left]
  · rw [if_neg q]
    repeat' split
    all_goals first | rfl | omega
theorem loop_end (t : List Int) (k r m : Int) (ht : t.length ≤ 16) : (((loopL t t.length).set 327 k).set 328 r).set 329 m = headL t k r m 0 := by
  refine List.ext_getElem (by simp [loopL, headL]) (fun i h1 h2 => ?_)
  simp only [List.getElem_set, loopL, headL, List.getElem_map, List.getElem_range, loopF, headF]
  repeat' split
  all_goals first | rfl | omega
theorem head_set (t : List Int) (k r m x y : Int) (ht : t.length ≤ 16) : (headL t k r m x).set 333 y = headL t k r m y := by
  refine List.ext_getElem (by simp [headL]) (fun i h1 h2 => ?_)
  simp only [List.getElem_set, headL, List.getElem_map, List.getElem_range, headF]
  repeat' split
  all_goals first | rfl | omega
theorem made_zero : (madeCells (Value.int .u8 0).cells (336 * 1)).toList = (List.replicate 336 (0 : Int)).map (Value.int .u8) := by kernel_rfl
abbrev OwnB (w : World) (base : Nat) (g cap : Nat) (L : List Int) : Prop := w.ownsRow base 5 1 (.slice (some ⟨g, 0, none⟩) L.length cap) L.length (L.map (Value.int .u8))
theorem ownB_set {w : World} {base g cap : Nat} {L : List Int} (h : OwnB w base g cap L) (j : Nat) (x : Int) : OwnB (w.setCell ⟨g, j, none⟩ (.int .u8 x)) base g cap (L.set j x) := by
  have := (h.stored j (.int .u8 x)).1
  unfold OwnB
  rw [List.length_set, List.map_set]
  exact this
theorem ownB_cell {w : World} {base g cap : Nat} {L : List Int} (h : OwnB w base g cap L) (j : Nat) (hj : j < L.length) : w.cell? ⟨g, j, none⟩ = some (.int .u8 (L.getD j 0)) := by
  rw [h.cellAt j (by omega), List.getElem?_map, List.getD_eq_getElem?_getD, List.getElem?_eq_getElem hj]; rfl
theorem ownB_lt {w : World} {base g cap : Nat} {L : List Int} (h : OwnB w base g cap L) : base ≤ g ∧ g < w.heap.size := h.lt g rfl
theorem ownB_add (g j : Nat) : (⟨g, 0, none⟩ : Addr).add j = ⟨g, j, none⟩ := by unfold Addr.add; split <;> simp_all
theorem ownB_row {w : World} {base g cap : Nat} {L : List Int} (h : OwnB w base g cap L) (hb : ∀ x ∈ L, InByte x) (hm : L.length ≤ maxLen) : Row w (some ⟨g, 0, none⟩) L :=
  ⟨hm, hb, .inr ⟨_, rfl, (ownB_lt h).2, fun i hi => by rw [ownB_add]; exact ownB_cell h i hi⟩⟩
theorem Kept.setCell {W w : World} (h : Kept W w) {g : Nat} (hg : W.heap.size ≤ g) (j : Nat) (v : Value) : Kept W (w.setCell ⟨g, j, none⟩ v) :=
  ⟨h.os, h.output, by simpa using h.size, fun k hk => (heap_setCell_other w ⟨g, j, none⟩ k v (fun e => by have : k = g := e; omega)).trans (h.block k hk)⟩
end Go.Proofs.Ytecgpdjgbdobbab
