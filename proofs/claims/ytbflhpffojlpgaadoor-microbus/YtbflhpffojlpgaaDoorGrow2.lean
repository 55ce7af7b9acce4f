/- Blocks that were made, behind draws; what was made is not frozen. -/
import Derived.Test.YtbflhpffojlpgaaDoorGrow
namespace Go.Proofs.YtbflhpffojlpgaaDoor
open Go.RowKit

theorem has_drew {w : World} {b : Nat} {cs : Array Value} (h : Has w b cs) : Has w.drew b cs := h
theorem grown_froz {w w2 : World} (g : Grown w w2) {b : Nat} (h : w.heap.size ≤ b) (o : Nat) : w2.frozen? ⟨b, o, none⟩ = false := by
  rw [g.2.1 ⟨b, o, none⟩]
  simp [World.frozen?, Array.getElem?_eq_none h]
end Go.Proofs.YtbflhpffojlpgaaDoor
