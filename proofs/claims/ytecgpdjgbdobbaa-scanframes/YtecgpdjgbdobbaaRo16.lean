/- The document's Same and Order, over this seat's translation. -/
import Derived.Test.YtecgpdjgbdobbaaSl16
import Derived.Test.YtecgpdjgbdobbaaSo16a
import Derived.BigQuiet
namespace Go.Proofs.Ytecgpdjgbdobbaa
open Go.RowKit Go.Sort Go.Lib Go.Shelf
set_option linter.unusedVariables false
set_option linter.unusedSimpArgs false

def sameO (o p : Ob) : Bool := ((o.1.val : Int) == p.1.val) && (((o.2.1.val : Int) == p.2.1.val) && (((o.2.2.1.val : Int) == p.2.2.1.val) && (((o.2.2.2.1.val : Int) == p.2.2.2.1.val) && ((o.2.2.2.2.val : Int) == p.2.2.2.2.val))))
theorem sameO_eq (o p : Ob) : sameO o p = decide (o = p) := by
  obtain ⟨⟨a0, _⟩, ⟨a1, _⟩, ⟨a2, _⟩, ⟨a3, _⟩, ⟨a4, _⟩⟩ := o
  obtain ⟨⟨b0, _⟩, ⟨b1, _⟩, ⟨b2, _⟩, ⟨b3, _⟩, ⟨b4, _⟩⟩ := p
  rw [Bool.eq_iff_iff]
  unfold sameO
  simp only [Bool.and_eq_true, beq_iff_eq, decide_eq_true_eq, Prod.mk.injEq, Fin.mk.injEq]
  omega
theorem eq_obs (o p : Ob) (u : World) : (Op.equalIn 10000 62 (obV o) (obV p)).run Try.prog u = .ok (decide (o = p)) u := by
  rw [← sameO_eq]
  unfold sameO obV
  cases h1 : ((o.1.val : Int) == p.1.val)
  · simp [go_sem, h1]
  cases h2 : ((o.2.1.val : Int) == p.2.1.val)
  · simp [go_sem, h1, h2]
  cases h3 : ((o.2.2.1.val : Int) == p.2.2.1.val)
  · simp [go_sem, h1, h2, h3]
  cases h4 : ((o.2.2.2.1.val : Int) == p.2.2.2.1.val)
  · simp [go_sem, h1, h2, h3, h4]
  cases h5 : ((o.2.2.2.2.val : Int) == p.2.2.2.2.val) <;> simp [go_sem, h1, h2, h3, h4, h5]
theorem list_same {L M : List Ob} {n : Nat} (h1 : L.length = n) (h2 : M.length = n) (h : ∀ t, t < n → L.getD t default = M.getD t default) : L = M := by
  refine List.ext_getElem (by omega) fun i a b => ?_
  have := h i (by omega)
  rwa [List.getD_eq_getElem?_getD, List.getD_eq_getElem?_getD, List.getElem?_eq_getElem a, List.getElem?_eq_getElem b] at this
set_option maxRecDepth 100000 in
set_option maxHeartbeats 4000000 in
theorem rahead16 (a b : Ob) (w : World) : Calls Try.prog 40 #[obV a, obV b] w fun e w' => e = .returned (.bool (decide (key16 a < key16 b))) ∧ ∃ q os, w' = Go.Sort.grow (w.drewN q) os := by
  have G := hid (show ∀ (x y : Obj), ∃ q os, (w.alloc x).alloc y = Go.Sort.grow (w.drewN q) os from fun x y => ⟨0, #[x] ++ #[y], by rw [alloc_eq_grow, alloc_eq_grow, grow_grow]; rfl⟩)
  have K := hid (show decide (key16 a < key16 b) = if a.2.1.val = b.2.1.val then decide (a.2.2.2.2.val < b.2.2.2.2.val) else decide (a.2.1.val < b.2.1.val) by
    obtain ⟨a0, ⟨a1, h1⟩, a2, a3, ⟨a4, h4⟩⟩ := a
    obtain ⟨b0, ⟨b1, k1⟩, b2, b3, ⟨b4, k4⟩⟩ := b
    simp only [key16]
    split <;> (congr 1; simp only [eq_iff_iff]; omega))
  rw [K.out]
  clear K
  obtain ⟨⟨a0, l0⟩, ⟨a1, l1⟩, ⟨a2, l2⟩, ⟨a3, l3⟩, ⟨a4, l4⟩⟩ := a
  obtain ⟨⟨b0, m0⟩, ⟨b1, m1⟩, ⟨b2, m2⟩, ⟨b3, m3⟩, ⟨b4, m4⟩⟩ := b
  simp only [obV, b8]
  by_cases h : a1 = b1
  · rw [if_pos h]
    subst h
    go_enter Try.func40, Try.ntmps40
    go_wp2
    go_ret
    exact ⟨by simp, G.out _ _⟩
  · rw [if_neg h]
    have g1 : ((a1 : Int) == (b1 : Int)) = false := by simp; omega
    go_enter Try.func40, Try.ntmps40
    go_wp2
    go_ret
    exact ⟨by simp, G.out _ _⟩
end Go.Proofs.Ytecgpdjgbdobbaa
