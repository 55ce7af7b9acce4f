/- The document's Same and Order, over this seat's translation. -/
import Derived.Test.YtecgpdjgbdobbabSl16
import Derived.Test.YtecgpdjgbdobbabSo16a
import Derived.BigQuiet
namespace Go.Proofs.Ytecgpdjgbdobbab
open Go.RowKit Go.Sort Go.Lib Go.Shelf
set_option linter.unusedVariables false
set_option linter.unusedSimpArgs false

def sameO (o p : Ob) : Bool := ((o.1.val : Int) == p.1.val) && (((o.2.1.val : Int) == p.2.1.val) && (((o.2.2.1.val : Int) == p.2.2.1.val) && (((o.2.2.2.1.val : Int) == p.2.2.2.1.val) && ((o.2.2.2.2.val : Int) == p.2.2.2.2.val))))
theorem sameO_eq (o p : Ob) : sameO o p = decide (o = p) := by
  obtain ⟨⟨a0, _⟩, ⟨a1, _⟩, ⟨a2, _⟩, ⟨a3, _⟩, ⟨a4, _⟩⟩ := o
  obtain ⟨⟨b0, _⟩, ⟨b1, _⟩, ⟨b2, _⟩, ⟨b3, _⟩, ⟨b4, _⟩⟩ := p
  rw [Bool.eq_iff_iff]
  unfold sameO
  simp only [Bool.and_eq_true, beq_iff_eq, decide_eq_true_eq, Prod.mk.injEq, Fin.mk.injEq]
  omega
theorem eq_obs (o p : Ob) (u : World) : (Op.equalIn 10000 52 (obV o) (obV p)).run Try.prog u = .ok (decide (o = p)) u := by
  rw [← sameO_eq]
  unfold sameO obV
  cases h1 : ((o.1.val : Int) == p.1.val)
  · simp [go_sem, h1]
  cases h2 : ((o.2.1.val : Int) == p.2.1.val)
  · simp [go_sem, h1, h2]
  cases h3 : ((o.2.2.1.val : Int) == p.2.2.1.val)
  · simp [go_sem, h1, h2, h3]
  cases h4 : ((o.2.2.2.1.val : Int) == p.2.2.2.1.val)
  · simp [go_sem, h1, h2, h3, h4]
  cases h5 : ((o.2.2.2.2.val : Int) == p.2.2.2.2.val) <;> simp [go_sem, h1, h2, h3, h4, h5]
theorem list_same {L M : List Ob} {n : Nat} (h1 : L.length = n) (h2 : M.length = n) (h : ∀ t, t < n → L.getD t default = M.getD t default) : L = M := by
  refine List.ext_getElem (by omega) fun i a b => ?_
  have := h i (by omega)
  rwa [List.getD_eq_getElem?_getD, List.getD_eq_getElem?_getD, List.getElem?_eq_getElem a, List.getElem?_eq_getElem b] at this
end Go.Proofs.Ytecgpdjgbdobbab
