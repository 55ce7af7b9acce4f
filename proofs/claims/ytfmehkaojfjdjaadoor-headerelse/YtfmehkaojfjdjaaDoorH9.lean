/- What a made image's head says: as it was wished. -/
import Derived.Test.YtfmehkaojfjdjaaDoorRm9
import Derived.Laws.Closers25b
namespace Go.Proofs.YtfmehkaojfjdjaaDoor
open Go.RowKit
set_option linter.unusedVariables false
set_option linter.unusedSimpArgs false

theorem strB_byL (T : ByteArray) : strB (byL T) = T := by
  apply ByteArray.ext
  unfold strB byL
  simp [List.map_map, Function.comp_def]
theorem made_head (T : ByteArray) (k r m : Int) (c : List Int) (h : makeE (byL T) k r m c = 0) :
    parseE (madeL (byL T) k r m c) = 0 ∧ (parseH (madeL (byL T) k r m c)).title = T ∧ (parseH (madeL (byL T) k r m c)).kind = k ∧ (parseH (madeL (byL T) k r m c)).banks = mostOf r / 16384 ∧
      (parseH (madeL (byL T) k r m c)).sum = sumV (madeL (byL T) k r m c) ∧ sumE (madeL (byL T) k r m c) = 0 ∧ (parseH (madeL (byL T) k r m c)).whole = wholeOf (madeL (byL T) k r m c) ∧ (madeL (byL T) k r m c).drop 336 = c := by
  obtain ⟨h0, h1, h2, h3, h4, h5, h6⟩ := make_ok _ _ _ _ _ h
  have pe := made_parse (byL T) k r m c h1 h3 h4 h5 h6
  have g : ∀ i, i < 334 → (madeL (byL T) k r m c).getD i 0 = headF (byL T) k r m (headX (byL T) k r m) i := fun i hi => madeL_get _ k r m c i hi
  have e327 : (madeL (byL T) k r m c).getD 327 0 = k := by
    rw [g 327 (by omega)]; unfold headF
    rw [if_neg (by omega), if_neg (by omega), if_neg (by omega), if_neg (by omega), if_pos rfl]
  have e328 : (madeL (byL T) k r m c).getD 328 0 = r := by
    rw [g 328 (by omega)]; unfold headF
    rw [if_neg (by omega), if_neg (by omega), if_neg (by omega), if_neg (by omega), if_neg (by omega), if_pos rfl]
  obtain ⟨w1, w2⟩ := made_334 (byL T) k r m c
  refine ⟨pe, ?_, ?_, ?_, ?_, ?_, ?_, ?_⟩
  · unfold parseH; rw [if_pos pe]; show strB (titL _) = T; rw [made_title _ k r m c h1 h2, strB_byL]
  · unfold parseH; rw [if_pos pe]; exact e327
  · unfold parseH; rw [if_pos pe]; show mostOf _ / 16384 = _; rw [e328]
  · unfold parseH; rw [if_pos pe]; show sumOf _ = _; unfold sumV; rw [madeL_len, if_neg (by omega)]
  · unfold sumE; rw [madeL_len, if_neg (by omega)]
  · unfold parseH; rw [if_pos pe]; show 256 * _ + _ = _; rw [w1, w2, made_whole]; omega
  · unfold madeL rawL
    rw [List.drop_set, List.drop_set]
    rw [if_pos (by omega), if_pos (by omega), List.drop_append_of_le_length (by rw [headL_len]; omega), List.drop_of_length_le (by rw [headL_len]; omega), List.nil_append]
theorem most_banks : ∀ r : Fin 9, mostTo r.val / 16384 = 2 * 2 ^ r.val := by decide +kernel
theorem made_in (T : ByteArray) (k r m : Int) (c : List Int) (hk : InByte k) (hr : InByte r) (hm : InByte m) (hc : ∀ y ∈ c, InByte y) : ∀ y ∈ madeL (byL T) k r m c, InByte y := by
  intro y hy
  obtain ⟨V0, V1⟩ := wholeTo_bd (rawL (byL T) k r m c) (rawL (byL T) k r m c).length
  have e : wholeOf (rawL (byL T) k r m c) = wholeTo (rawL (byL T) k r m c) (rawL (byL T) k r m c).length := rfl
  rcases List.mem_or_eq_of_mem_set hy with hy | rfl
  · rcases List.mem_or_eq_of_mem_set hy with hy | rfl
    · exact raw_in _ k r m c (byL_in T) hk hr hm hc y hy
    · rw [e]; constructor <;> omega
  · rw [e]; constructor <;> omega
theorem own_any {w : World} {base : Nat} {v : Value} {L : List Int} (o : w.ownsRow base 5 1 v L.length (L.map (Value.int .u8))) : ∃ a cp, v = .slice a L.length cp := by
  rcases id o.2 with ⟨rfl, q⟩ | ⟨g, cap, cur, rfl, _⟩
  · rw [q]; exact ⟨_, _, rfl⟩
  · exact ⟨_, _, rfl⟩
theorem xor_fin : ∀ a b : Fin 256, bits .xor .u8 (a.val : Int) (b.val : Int) = (a.val : Int) → b.val = 0 := by decide +kernel
theorem xor_other (a b : Int) (a0 : 0 ≤ a) (a1 : a ≤ 255) (b0 : 0 ≤ b) (b1 : b ≤ 255) (h : b ≠ 0) : bits .xor .u8 a b ≠ a := by
  obtain ⟨x, rfl⟩ := Int.eq_ofNat_of_zero_le a0
  obtain ⟨y, rfl⟩ := Int.eq_ofNat_of_zero_le b0
  intro e
  have := xor_fin ⟨x, by omega⟩ ⟨y, by omega⟩ e
  exact h (by have q : y = 0 := this; rw [q]; rfl)
theorem xor_in (a b : Int) : InByte (bits .xor .u8 a b) := bits_within .xor .u8 a b
theorem getD_in {l : List Int} (h : ∀ x ∈ l, InByte x) (n : Nat) : InByte (l.getD n 0) := by
  rw [List.getD_eq_getElem?_getD]
  by_cases q : n < l.length
  · rw [List.getElem?_eq_getElem q]; exact h _ (List.getElem_mem q)
  · rw [List.getElem?_eq_none (by omega)]; exact ⟨by decide, by decide⟩
theorem set_in {l : List Int} (h : ∀ x ∈ l, InByte x) (n : Nat) (y : Int) (hy : InByte y) : ∀ x ∈ l.set n y, InByte x := by
  intro x hx
  rcases List.mem_or_eq_of_mem_set hx with q | rfl
  · exact h x q
  · exact hy
theorem getD_set_eq (l : List Int) (n : Nat) (y : Int) (h : n < l.length) : (l.set n y).getD n 0 = y := by
  rw [List.getD_eq_getElem?_getD, List.getElem?_set_self h]; rfl
theorem getD_set_ne (l : List Int) (n i : Nat) (y : Int) (h : n ≠ i) : (l.set n y).getD i 0 = l.getD i 0 := by
  rw [List.getD_eq_getElem?_getD, List.getD_eq_getElem?_getD, List.getElem?_set_ne h]
end Go.Proofs.YtfmehkaojfjdjaaDoor
