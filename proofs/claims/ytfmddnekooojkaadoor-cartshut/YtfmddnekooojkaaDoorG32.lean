/- What the document's answers of layer 10 come to: Write, above the image. What the document's answers of layer 10 come to: Save. What the document's answers of layer 10 come to: Load. What the document's answers of layer 10 come to: Load, with clocks. -/
import Derived.Test.YtfmddnekooojkaaDoorG31
import Derived.Test.YtfmddnekooojkaaDoorG14
import Derived.Test.YtfmddnekooojkaaDoorG13
namespace Go.Proofs.YtfmddnekooojkaaDoor
open Go.RowKit
set_option linter.unusedVariables false
set_option linter.unusedSimpArgs false

end Go.Proofs.YtfmddnekooojkaaDoor
namespace Go.Proofs.YtfmddnekooojkaaDoor
open Go.RowKit
set_option linter.unusedVariables false
set_option linter.unusedSimpArgs false

end Go.Proofs.YtfmddnekooojkaaDoor
namespace Go.Proofs.YtfmddnekooojkaaDoor
open Go.RowKit
set_option linter.unusedVariables false
set_option linter.unusedSimpArgs false

theorem save_in (s : Cs) (O : CsOk s) : ∀ x ∈ saveS s, InByte x := by
  unfold saveS
  split
  · intro x hx
    rcases List.mem_append.1 hx with q | q
    · exact O.ram x q
    · split at q
      · exact bytes_in _ _ O.live O.held x q
      · cases q
  · intro x hx; cases hx
theorem save_len (s : Cs) (h : s.is = true ∧ s.h.bat = true) : (saveS s).length = s.ram.length + (if s.h.clk = true then 10 else 0) := by
  unfold saveS
  rw [if_pos h, List.length_append]
  split <;> rfl
end Go.Proofs.YtfmddnekooojkaaDoor
namespace Go.Proofs.YtfmddnekooojkaaDoor
open Go.RowKit
set_option linter.unusedVariables false
set_option linter.unusedSimpArgs false

end Go.Proofs.YtfmddnekooojkaaDoor
