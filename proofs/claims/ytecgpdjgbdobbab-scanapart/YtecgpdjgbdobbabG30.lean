/- The document's Same and Order, over this seat's translation. The document's Order, over this seat's translation. -/
import Derived.Test.YtecgpdjgbdobbabG18
import Derived.Test.YtecgpdjgbdobbabG26
import Derived.BigQuiet
import Derived.Test.YtecgpdjgbdobbabG29
namespace Go.Proofs.Ytecgpdjgbdobbab
open Go.RowKit Go.Sort Go.Lib Go.Shelf
set_option linter.unusedVariables false
set_option linter.unusedSimpArgs false

def sameO (o p : Ob) : Bool := ((o.1.val : Int) == p.1.val) && (((o.2.1.val : Int) == p.2.1.val) && (((o.2.2.1.val : Int) == p.2.2.1.val) && (((o.2.2.2.1.val : Int) == p.2.2.2.1.val) && ((o.2.2.2.2.val : Int) == p.2.2.2.2.val))))
theorem sameO_eq (o p : Ob) : sameO o p = decide (o = p) := by
  obtain ⟨⟨a0, _⟩, ⟨a1, _⟩, ⟨a2, _⟩, ⟨a3, _⟩, ⟨a4, _⟩⟩ := o
  obtain ⟨⟨b0, _⟩, ⟨b1, _⟩, ⟨b2, _⟩, ⟨b3, _⟩, ⟨b4, _⟩⟩ := p
  rw [Bool.eq_iff_iff]
  unfold sameO
  simp only [Bool.and_eq_true, beq_iff_eq, decide_eq_true_eq, Prod.mk.injEq, Fin.mk.injEq]
  omega
theorem eq_obs (o p : Ob) (u : World) : (Op.equalIn 10000 52 (obV o) (obV p)).run Try.prog u = .ok (decide (o = p)) u := by
  rw [← sameO_eq]
  unfold sameO obV
  cases h1 : ((o.1.val : Int) == p.1.val)
  · simp [go_sem, h1]
  cases h2 : ((o.2.1.val : Int) == p.2.1.val)
  · simp [go_sem, h1, h2]
  cases h3 : ((o.2.2.1.val : Int) == p.2.2.1.val)
  · simp [go_sem, h1, h2, h3]
  cases h4 : ((o.2.2.2.1.val : Int) == p.2.2.2.1.val)
  · simp [go_sem, h1, h2, h3, h4]
  cases h5 : ((o.2.2.2.2.val : Int) == p.2.2.2.2.val) <;> simp [go_sem, h1, h2, h3, h4, h5]
theorem list_same {L M : List Ob} {n : Nat} (h1 : L.length = n) (h2 : M.length = n) (h : ∀ t, t < n → L.getD t default = M.getD t default) : L = M := by
  refine List.ext_getElem (by omega) fun i a b => ?_
  have := h i (by omega)
  rwa [List.getD_eq_getElem?_getD, List.getD_eq_getElem?_getD, List.getElem?_eq_getElem a, List.getElem?_eq_getElem b] at this
end Go.Proofs.Ytecgpdjgbdobbab
namespace Go.Proofs.Ytecgpdjgbdobbab
open Go.RowKit Go.Sort Go.Lib Go.Shelf
set_option linter.unusedVariables false
set_option linter.unusedSimpArgs false

theorem kept_grown {W u : World} (k : Kept W u) (n : Nat) (os : Array Obj) : Kept W (Go.Sort.grow (u.drewN n) os) := by
  refine ⟨k.os, k.output, ?_, fun i hi => ?_⟩
  · show _ ≤ (u.heap ++ os).size
    rw [Array.size_append]; have := k.size; omega
  · show (u.heap ++ os)[i]? = _
    rw [Array.getElem?_append_left (Nat.lt_of_lt_of_le hi k.size)]
    exact k.block i hi
theorem take_one {L : List Ob} {j : Nat} (h : j < L.length) : L.take (j + 1) = L.take j ++ [L.getD j default] := by
  rw [List.take_add_one, List.getD_eq_getElem?_getD, List.getElem?_eq_getElem h]; rfl
theorem ins_len {M : List Ob} {k : Nat} (o : Ob) : (M.take k ++ [o] ++ M.drop k).length = M.length + 1 := by
  simp only [List.length_append, List.length_take, List.length_drop, List.length_singleton]; omega
/-- What is put in: all behind it have a greater key, all ahead of it have not. -/
theorem stab_put {L M : List Ob} {j k : Nat} {o : Ob} (S : Stab key16 (L.take j) M) (hm : M.length = j) (hj : j < L.length) (ho : L.getD j default = o) (hk : k ≤ j)
    (hi : ∀ t, k ≤ t → t < j → key16 o < key16 (M.getD t default)) (lo : k = 0 ∨ ¬ key16 o < key16 (M.getD (k - 1) default)) : Stab key16 (L.take (j + 1)) (M.take k ++ [o] ++ M.drop k) := by
  rw [take_one hj, ho]
  have gd : ∀ t (ht : t < M.length), M.getD t default = M[t] := fun t ht => by rw [List.getD_eq_getElem?_getD, List.getElem?_eq_getElem ht]; rfl
  refine stab_ins S (by omega) (fun t ht q => by rw [← gd t ht]; exact hi t q (by omega)) (fun t ht q => ?_)
  rcases lo with lo | lo
  · omega
  · rw [gd _ (by omega)] at lo
    have up := List.pairwise_iff_getElem.1 S.1
    by_cases c : t = k - 1
    · subst c; omega
    · have := up t (k - 1) ht (by omega) (by omega)
      omega
end Go.Proofs.Ytecgpdjgbdobbab
