/- The document's Order, over this seat's translation. -/
import Derived.Test.YtecgpdjgbdobbabRo16
import Derived.Test.YtecgpdjgbdobbabOr16
namespace Go.Proofs.Ytecgpdjgbdobbab
open Go.RowKit Go.Sort Go.Lib Go.Shelf
set_option linter.unusedVariables false
set_option linter.unusedSimpArgs false

theorem kept_grown {W u : World} (k : Kept W u) (n : Nat) (os : Array Obj) : Kept W (Go.Sort.grow (u.drewN n) os) := by
  refine ⟨k.os, k.output, ?_, fun i hi => ?_⟩
  · show _ ≤ (u.heap ++ os).size
    rw [Array.size_append]; have := k.size; omega
  · show (u.heap ++ os)[i]? = _
    rw [Array.getElem?_append_left (Nat.lt_of_lt_of_le hi k.size)]
    exact k.block i hi
theorem take_one {L : List Ob} {j : Nat} (h : j < L.length) : L.take (j + 1) = L.take j ++ [L.getD j default] := by
  rw [List.take_add_one, List.getD_eq_getElem?_getD, List.getElem?_eq_getElem h]; rfl
theorem ins_len {M : List Ob} {k : Nat} (o : Ob) : (M.take k ++ [o] ++ M.drop k).length = M.length + 1 := by
  simp only [List.length_append, List.length_take, List.length_drop, List.length_singleton]; omega
/-- What is put in: all behind it have a greater key, all ahead of it have not. -/
theorem stab_put {L M : List Ob} {j k : Nat} {o : Ob} (S : Stab key16 (L.take j) M) (hm : M.length = j) (hj : j < L.length) (ho : L.getD j default = o) (hk : k ≤ j)
    (hi : ∀ t, k ≤ t → t < j → key16 o < key16 (M.getD t default)) (lo : k = 0 ∨ ¬ key16 o < key16 (M.getD (k - 1) default)) : Stab key16 (L.take (j + 1)) (M.take k ++ [o] ++ M.drop k) := by
  rw [take_one hj, ho]
  have gd : ∀ t (ht : t < M.length), M.getD t default = M[t] := fun t ht => by rw [List.getD_eq_getElem?_getD, List.getElem?_eq_getElem ht]; rfl
  refine stab_ins S (by omega) (fun t ht q => by rw [← gd t ht]; exact hi t q (by omega)) (fun t ht q => ?_)
  rcases lo with lo | lo
  · omega
  · rw [gd _ (by omega)] at lo
    have up := List.pairwise_iff_getElem.1 S.1
    by_cases c : t = k - 1
    · subst c; omega
    · have := up t (k - 1) ht (by omega) (by omega)
      omega
end Go.Proofs.Ytecgpdjgbdobbab
