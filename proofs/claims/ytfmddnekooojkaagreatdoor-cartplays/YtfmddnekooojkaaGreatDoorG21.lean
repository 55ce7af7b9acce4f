/- Clocks are found again in their bytes. -/
import Derived.Test.YtfmddnekooojkaaGreatDoorG04
import Derived.Test.YtfmddnekooojkaaGreatDoorG13
import Derived.Test.YtfmddnekooojkaaGreatDoorG14
namespace Go.Proofs.YtfmddnekooojkaaGreatDoor
open Go.RowKit
set_option linter.unusedVariables false
set_option linter.unusedSimpArgs false

theorem bytesL_is (a b : Ck) : bytesL a b = [readC a 8, readC a 9, readC a 10, readC a 11, readC a 12, readC b 8, readC b 9, readC b 10, readC b 11, readC b 12] := rfl
theorem bytes_of (a b : Ck) (ha : CkIn a) (hb : CkIn b) : ofE (bytesL a b) = 0 ∧ ofX (bytesL a b) = normC a ∧ ofY (bytesL a b) = normC b := by
  obtain ⟨p0, p1, p2, p3, p4, _⟩ := one_back (normC a) (norm_ok ha)
  obtain ⟨q0, q1, q2, q3, q4, _⟩ := one_back (normC b) (norm_ok hb)
  have E : ofE (bytesL a b) = 0 := by
    rw [bytesL_is]
    unfold ofE
    rw [if_neg (by simp), if_neg]
    simp only [badA, badB, List.getD_cons_zero, List.getD_cons_succ, readC]
    omega
  refine ⟨E, ?_, ?_⟩
  · unfold ofX; rw [if_pos E]; exact p0
  · unfold ofY; rw [if_pos E]; exact q0
theorem read_byte (c : Ck) (h : CkIn c) (k : Int) (hk : 8 ≤ k ∧ k ≤ 12) : 0 ≤ readC c k ∧ readC c k ≤ 255 := by
  have o := norm_ok h
  obtain ⟨p0, p1, p2, p3, p4, p5, p6, p7, p8⟩ := one_back (normC c) o
  unfold readC
  have hk2 : k = 8 ∨ k = 9 ∨ k = 10 ∨ k = 11 ∨ k = 12 := by omega
  rcases hk2 with rfl | rfl | rfl | rfl | rfl
  · exact ⟨o.s0, by omega⟩
  · exact ⟨o.m0, by omega⟩
  · exact ⟨o.h0, by omega⟩
  · exact ⟨p7, p8⟩
  · exact ⟨p5, p6⟩
theorem bytes_in (a b : Ck) (ha : CkIn a) (hb : CkIn b) : ∀ x ∈ bytesL a b, InByte x := by
  rw [bytesL_is]
  intro x hx
  simp only [List.mem_cons, List.not_mem_nil, or_false] at hx
  rcases hx with rfl | rfl | rfl | rfl | rfl | rfl | rfl | rfl | rfl | rfl
  all_goals first | exact read_byte a ha _ (by decide) | exact read_byte b hb _ (by decide)
theorem owns_rowB {w : World} {base : Nat} {v : Value} {L : List Int} (o : w.ownsRow base 5 1 v L.length (L.map (Value.int .u8))) (hb : ∀ x ∈ L, InByte x) (hl : 0 < L.length) :
    ∃ x cap, v = .slice (some x) L.length cap ∧ Row w (some x) L ∧ L.length ≤ cap ∧ cap ≤ maxLen := by
  obtain ⟨_, h | ⟨g, cap, cur, rfl, hg, hh, h1, h2, h3, h4⟩⟩ := id o
  · omega
  · refine ⟨⟨g, 0, none⟩, cap, rfl, ⟨by omega, hb, .inr ⟨_, rfl, (Array.getElem?_eq_some_iff.1 hh).1, fun i hi => ?_⟩⟩, h1, h2⟩
    refine o.cells rfl i _ ?_
    rw [List.getElem?_map, List.getD_eq_getElem?_getD, List.getElem?_eq_getElem hi]
    rfl
theorem regE_in (k : Int) (hk : 8 ≤ k ∧ k ≤ 12) : regE k = 0 := by
  have hk2 : k = 8 ∨ k = 9 ∨ k = 10 ∨ k = 11 ∨ k = 12 := by omega
  rcases hk2 with rfl | rfl | rfl | rfl | rfl <;> rfl
end Go.Proofs.YtfmddnekooojkaaGreatDoor
