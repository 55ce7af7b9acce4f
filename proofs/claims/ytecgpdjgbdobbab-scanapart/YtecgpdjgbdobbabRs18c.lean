/- The document's line. -/
import Derived.Test.YtecgpdjgbdobbabRs18b
import Derived.Test.YtecgpdjgbdobbabSc16b
import Derived.Test.YtecgpdjgbdobbabRod16
namespace Go.Proofs.Ytecgpdjgbdobbab
open Go.RowKit
set_option linter.unusedVariables false
set_option linter.unusedSimpArgs false

theorem sl_one18 (w : World) (d : Int) (hd : InByte d) : Sl (w.alloc (.cells #[.int .u8 d] 5)) (some ⟨w.heap.size, 0, none⟩) 1 [d] := by
  refine ⟨⟨by simp [maxLen], fun x hx => by rw [List.mem_singleton.1 hx]; exact hd, .inr ⟨_, rfl, by simp, fun i hi => ?_⟩⟩, by simp, by simp [maxLen], fun e => by cases e⟩
  obtain rfl : i = 0 := by simp at hi; omega
  rw [ownB_add, blk_cell (blk_new w [.int .u8 d] 5)]
  rfl
theorem own_nil18 (w : World) (base : Nat) : w.ownsRow base 5 1 (.slice none 0 0) ([] : List Int).length (([] : List Int).map (Value.int .u8)) := ⟨rfl, .inl ⟨rfl, rfl⟩⟩
theorem own_form18 {w : World} {base : Nat} {v : Value} {L : List Int} (o : w.ownsRow base 5 1 v (L).length ((L).map (Value.int .u8))) (hb : ∀ x ∈ L, InByte x) : ∃ a cap, v = .slice a L.length cap ∧ w.ownsRow base 5 1 (.slice a L.length cap) (L).length ((L).map (Value.int .u8)) := by
  obtain ⟨a, cap, e, _⟩ := own_sl o hb
  exact ⟨a, cap, e, by rw [← e]; exact o⟩
theorem line_next (v : Vd) (y win : Int) {j : Nat} (h : j < 160) : (lineP v y win).take (j + 1) = (lineP v y win).take j ++ [dotL v y win j] := by
  rw [List.take_add_one]
  unfold lineP
  simp [h]
end Go.Proofs.Ytecgpdjgbdobbab
