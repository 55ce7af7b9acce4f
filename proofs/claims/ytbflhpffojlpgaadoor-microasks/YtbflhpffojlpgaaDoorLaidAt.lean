/- A laid variable of plain data, by its place in the list of what is laid, cell by cell. -/
import Derived.Test.YtbflhpffojlpgaaDoorLaid
import Derived.Lay
namespace Go.Proofs.YtbflhpffojlpgaaDoor
open Go.ChangeShapes Go.WideShapes Go.ChangeAt Go.RowKit
set_option linter.unusedVariables false
set_option linter.unusedSimpArgs false

theorem laid_at {P : Program} {W : World} : ∀ {laid : List (String × DataW Unit)} {ps : List MemPlace}, DataW.LaidVars P W laid ps → ∀ (i : Nat) (x : String × DataW Unit), laid[i]? = some x → ∀ {g t k : Nat} {l : List Value},
    P.globalNamed x.1 = some g → (P.globals[g]?).map (·.type) = some t → untrod P k t x.2 = some l → 0 < l.length → Has W g l.toArray
  | [], _, _, i, x, hx, _, _, _, _, _, _, _, _ => by simp at hx
  | (n, d) :: r, ps, h, 0, x, hx, g, t, k, l, hg, ht, hu, h0 => by
    obtain ⟨g2, t2, cs, f, p, q, hg2, ht2, hv, hd, _, _⟩ := h
    obtain rfl : (n, d) = x := by simpa using hx
    obtain rfl := Option.some.inj (hg.symm.trans hg2)
    obtain rfl := Option.some.inj (ht.symm.trans ht2)
    exact has_var hg hv hd hu h0
  | (n, d) :: r, ps, h, i + 1, x, hx, g, t, k, l, hg, ht, hu, h0 => by
    obtain ⟨_, _, _, _, _, q, _, _, _, _, hr, _⟩ := h
    exact laid_at hr i x (by simpa using hx) hg ht hu h0
end Go.Proofs.YtbflhpffojlpgaaDoor
