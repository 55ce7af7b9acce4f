/- The laying of an image, as lists; copies into a row of the call's own. -/
import Derived.Test.YtfmehkaojfjdjaaDoorPg7h
import Derived.Laws.CopyOwn
import Derived.Lib.BufferWrite
namespace Go.Proofs.YtfmehkaojfjdjaaDoor
open Go.RowKit
set_option linter.unusedVariables false
set_option linter.unusedSimpArgs false

def spl (L : List Int) (o : Nat) (C : List Int) : List Int := L.take o ++ C ++ L.drop (o + C.length)
theorem spl_len (L : List Int) (o : Nat) (C : List Int) (h : o + C.length ≤ L.length) : (spl L o C).length = L.length := by unfold spl; simp; omega
theorem spl_get (L : List Int) (o : Nat) (C : List Int) (h : o + C.length ≤ L.length) (i : Nat) : (spl L o C)[i]? = if i < o then L[i]? else if i < o + C.length then C[i - o]? else L[i]? := by
  unfold spl
  rw [List.append_assoc, List.getElem?_append, List.length_take, Nat.min_eq_left (by omega)]
  split
  · rename_i q; rw [List.getElem?_take_of_lt q]
  · rename_i q
    rw [List.getElem?_append]
    split
    · rename_i q2; rw [if_pos (by omega)]
    · rename_i q2
      rw [if_neg (by omega), List.getElem?_drop]
      congr 1
      omega
def layL (t : List Int) (k r m : Int) (n : Nat) : List Int := (((spl (spl (List.replicate (336 + n) 0) 256 [0, 195, 80, 1]) 308 t).set 327 k).set 328 r).set 329 m
theorem layL_eq (t : List Int) (k r m : Int) (n : Nat) (ht : t.length ≤ 16) : layL t k r m n = headL t k r m 0 ++ List.replicate n 0 := by
  unfold layL
  have h0 : (List.replicate (336 + n) (0 : Int)).length = 336 + n := by simp
  have h1 : (spl (List.replicate (336 + n) (0 : Int)) 256 [0, 195, 80, 1]).length = 336 + n := by rw [spl_len _ _ _ (by simp; omega)]; exact h0
  have h2 : (spl (spl (List.replicate (336 + n) (0 : Int)) 256 [0, 195, 80, 1]) 308 t).length = 336 + n := by rw [spl_len _ _ _ (by rw [h1]; omega)]; exact h1
  apply List.ext_getElem?
  intro i
  rw [List.getElem?_set, List.getElem?_set, List.getElem?_set, List.length_set, List.length_set, h2, spl_get _ _ _ (by rw [h1]; omega), spl_get _ _ _ (by simp; omega), List.getElem?_append, headL_len]
  by_cases hi : i < 336 + n
  · by_cases h3 : i < 336
    · rw [if_pos h3]
      have hg : (headL t k r m 0)[i]? = some (headF t k r m 0 i) := by unfold headL; rw [List.getElem?_map, List.getElem?_range h3]; rfl
      rw [hg]
      unfold headF
      have hr : (List.replicate (336 + n) (0 : Int))[i]? = some 0 := by rw [List.getElem?_replicate, if_pos hi]
      by_cases a1 : 329 = i
      · subst a1; rw [if_pos rfl, if_pos (by omega), if_neg (by omega), if_neg (by omega), if_neg (by omega), if_neg (by omega), if_neg (by omega), if_neg (by omega), if_pos rfl]
      by_cases a2 : 328 = i
      · subst a2; rw [if_neg (by omega), if_pos rfl, if_pos (by omega), if_neg (by omega), if_neg (by omega), if_neg (by omega), if_neg (by omega), if_neg (by omega), if_pos rfl]
      by_cases a3 : 327 = i
      · subst a3; rw [if_neg (by omega), if_neg (by omega), if_pos rfl, if_pos (by omega), if_neg (by omega), if_neg (by omega), if_neg (by omega), if_neg (by omega), if_pos rfl]
      rw [if_neg a1, if_neg a2, if_neg a3]
      by_cases b1 : i < 308
      · rw [if_pos b1]
        by_cases b2 : i < 256
        · rw [if_pos b2, hr, if_neg (by omega), if_neg (by omega), if_neg (by omega), if_neg (by omega), if_neg (by omega), if_neg (by omega), if_neg (by omega), if_neg (by omega)]
        · rw [if_neg b2]
          by_cases b3 : i < 260
          · rw [if_pos (by simpa using b3)]
            have : i = 256 ∨ i = 257 ∨ i = 258 ∨ i = 259 := by omega
            rcases this with rfl | rfl | rfl | rfl <;> simp
          · rw [if_neg (by simpa using b3), hr, if_neg (by omega), if_neg (by omega), if_neg (by omega), if_neg (by omega), if_neg (by omega), if_neg (by omega), if_neg (by omega), if_neg (by omega)]
      · rw [if_neg b1]
        by_cases b2 : i < 308 + t.length
        · rw [if_pos b2, if_neg (by omega), if_neg (by omega), if_neg (by omega), if_pos ⟨by omega, b2⟩, List.getD_eq_getElem?_getD, List.getElem?_eq_getElem (by omega)]
          rfl
        · rw [if_neg b2, if_neg (by omega), if_neg (by simp; omega), hr, if_neg (by omega), if_neg (by omega), if_neg (by omega), if_neg (by omega), if_neg (by omega), if_neg (by omega), if_neg (by omega)]
          split <;> rfl
    · have hr : (List.replicate (336 + n) (0 : Int))[i]? = some 0 := by rw [List.getElem?_replicate, if_pos hi]
      rw [if_neg h3, if_neg (by omega), if_neg (by omega), if_neg (by omega), if_neg (by omega), if_neg (by omega), if_neg (by omega), if_neg (by simp; omega), hr, List.getElem?_replicate, if_pos (by omega)]
  · rw [if_neg (by omega), if_neg (by omega), if_neg (by omega), if_neg (by omega), if_neg (by omega), if_neg (by omega), if_neg (by simp; omega), if_neg (by omega), List.getElem?_replicate, if_neg hi, List.getElem?_replicate, if_neg (by omega)]
theorem lay_sum (t : List Int) (k r m : Int) (n : Nat) (ht : t.length ≤ 16) : sumOf (layL t k r m n) = headX t k r m := by
  rw [layL_eq t k r m n ht]
  unfold headX sumOf
  refine sumTo_congr _ _ 25 (fun i hi => ?_)
  rw [List.getD_eq_getElem?_getD, List.getElem?_append_left (by rw [headL_len]; omega), ← List.getD_eq_getElem?_getD]
theorem lay_raw (t : List Int) (k r m : Int) (c : List Int) (ht : t.length ≤ 16) : spl ((layL t k r m c.length).set 333 (headX t k r m)) 336 c = rawL t k r m c := by
  rw [layL_eq t k r m c.length ht, List.set_append_left _ _ (by rw [headL_len]; decide), head_set _ _ _ _ _ _ ht]
  unfold spl rawL
  rw [List.take_append_of_le_length (by rw [headL_len]; exact Nat.le_refl _), List.take_of_length_le (by rw [headL_len]; exact Nat.le_refl _), List.drop_of_length_le (by simp [headL_len]), List.append_nil]
theorem lay_raw0 (t : List Int) (k r m : Int) (ht : t.length ≤ 16) : (layL t k r m 0).set 333 (headX t k r m) = rawL t k r m [] := by
  have := lay_raw t k r m [] ht
  unfold spl at this
  simpa using this
theorem ownB_heap {w : World} {base g cap : Nat} {L : List Int} (h : OwnB w base g cap L) (hc : L.length = cap) : w.heap[g]? = some (.cells (L.map (Value.int .u8)).toArray 5 (0, 0)) ∧ base ≤ g ∧ cap ≤ maxLen := by
  obtain ⟨_, h | ⟨g2, cap2, cur, e, hb, hh, h1, h2, h3, h4⟩⟩ := h
  · cases h.1
  · cases e
    rw [List.take_of_length_le (by rw [Array.length_toList, h3]; omega)] at h4
    rw [← h4]
    exact ⟨hh, hb, h2⟩
theorem heap_ownB {w : World} {base g cap : Nat} {L : List Int} (hh : w.heap[g]? = some (.cells (L.map (Value.int .u8)).toArray 5 (0, 0))) (hb : base ≤ g) (hc : L.length = cap) (hm : cap ≤ maxLen) : OwnB w base g cap L :=
  ⟨by simp, .inr ⟨g, cap, _, rfl, hb, hh, by omega, hm, by simp [hc], by simp [List.take_of_length_le]⟩⟩
theorem spl_map (L : List Int) (o : Nat) (C : List Int) : ((L.map (Value.int .u8)).take o ++ C.map (Value.int .u8) ++ (L.map (Value.int .u8)).drop (o + (C.map (Value.int .u8)).length)) = (spl L o C).map (Value.int .u8) := by
  unfold spl
  rw [List.length_map, List.map_append, List.map_append, List.map_take, List.map_drop]
theorem kept_setRow {W w : World} (h : Kept W w) {g : Nat} (hg : W.heap.size ≤ g) (cs : Array Value) : Kept W (w.setRow g cs) :=
  ⟨h.os, h.output, by simpa using h.size, fun k hk => (setRow_other w g k cs (by omega)).trans (h.block k hk)⟩
/-- A copy into a row of the call's own, out of cells that can be read. -/
theorem copy_own {w : World} {base g cap : Nat} {L : List Int} (o : OwnB w base g cap L) (hc : L.length = cap) (off dLen dCap : Nat) (ad : Addr) (sCap : Nat) (C : List Int) (hl : C.length ≤ dLen) (hf : off + C.length ≤ L.length)
    (hs : ∀ j u, (C.map (Value.int .u8))[j]? = some u → w.cell? (ad.add j) = some u) (W : World) (k : Kept W w) (hW : W.heap.size ≤ g) :
    ∃ w2, (∀ ty, (Builtin.copy_ #[22, 22] ty #[.slice (some ⟨g, off, none⟩) dLen dCap, .slice (some ad) C.length sCap]).run Tryd.prog w = .ok (.int .i64 (C.length : Int)) w2) ∧ OwnB w2 base g cap (spl L off C) ∧ Kept W w2 := by
  obtain ⟨hh, hb, hm⟩ := ownB_heap o hc
  refine ⟨w.setRow g ((spl L off C).map (Value.int .u8)).toArray, fun ty => ?_, ?_, kept_setRow k hW _⟩
  · have := run_copy_row Tryd.prog w 22 22 ty 5 g off dLen dCap ad C.length sCap _ 5 (C.map (Value.int .u8)) Tryd.underlying22 (by kernel_rfl) hh (by rw [List.length_map]; exact (Nat.min_eq_left hl).symm) hs (by simpa using hf) (fun v hv => by obtain ⟨q, _, rfl⟩ := List.mem_map.1 hv; rfl)
    rw [List.toList_toArray, spl_map, List.length_map] at this
    exact this
  · refine heap_ownB ?_ hb (by rw [spl_len _ _ _ hf]; exact hc) hm
    exact setRow_heap w g _ _ _ _ hh
theorem byteCells_byL (T : ByteArray) : Go.Lib.byteCells T.data.toList = (byL T).map (Value.int .u8) := by
  unfold byL
  rw [List.map_map]
  rfl
theorem copy_str {w : World} {base g cap : Nat} {L : List Int} (o : OwnB w base g cap L) (hc : L.length = cap) (off dLen dCap : Nat) (T : ByteArray) (hl : T.size ≤ dLen) (hf : off + T.size ≤ L.length) (W : World) (k : Kept W w) (hW : W.heap.size ≤ g) :
    ∃ w2, (∀ ty, (Builtin.copy_ #[22, 9] ty #[.slice (some ⟨g, off, none⟩) dLen dCap, .string T]).run Tryd.prog w = .ok (.int .i64 (T.size : Int)) w2) ∧ OwnB w2 base g cap (spl L off (byL T)) ∧ Kept W w2 := by
  obtain ⟨hh, hb, hm⟩ := ownB_heap o hc
  refine ⟨w.setRow g ((spl L off (byL T)).map (Value.int .u8)).toArray, fun ty => ?_, ?_, kept_setRow k hW _⟩
  · have := Go.Lib.run_copy_row_string (P := Tryd.prog) w 22 9 ty 5 g off dLen dCap T _ 5 Tryd.underlying22 (by kernel_rfl) hh hl (by simpa using hf)
    have e := spl_map L off (byL T)
    rw [List.length_map, byL_len] at e
    rw [List.toList_toArray, byteCells_byL, e] at this
    exact this
  · refine heap_ownB ?_ hb (by rw [spl_len _ _ _ (by rw [byL_len]; exact hf)]; exact hc) hm
    exact setRow_heap w g _ _ _ _ hh
end Go.Proofs.YtfmehkaojfjdjaaDoor
