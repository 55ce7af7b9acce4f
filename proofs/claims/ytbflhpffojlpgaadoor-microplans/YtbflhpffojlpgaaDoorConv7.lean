/- Bytes that lie in memory, as a string, for layer 7. -/
import Derived.Test.YtbflhpffojlpgaaDoorH7
import Derived.Test.YtbflhpffojlpgaaDoorChecked
import Derived.Laws.BytesString
namespace Go.Proofs.YtbflhpffojlpgaaDoor
open Go.RowKit
set_option linter.unusedVariables false
set_option linter.unusedSimpArgs false

theorem strB_to (l : List Int) : ∀ r : ByteArray, l.foldl (fun r n => r.push (UInt8.ofNat n.toNat)) r = ⟨r.data ++ (l.map (fun n => UInt8.ofNat n.toNat)).toArray⟩ := by
  induction l with
  | nil => intro r; apply ByteArray.ext; simp
  | cons a l ih => intro r; rw [List.foldl_cons, ih]; apply ByteArray.ext; simp [ByteArray.push]
theorem strB_fold (l : List Int) : l.foldl (fun r n => r.push (UInt8.ofNat n.toNat)) ByteArray.empty = strB l := by
  rw [strB_to]
  apply ByteArray.ext
  simp [strB]
theorem strB_app (a b : List Int) : strB a ++ strB b = strB (a ++ b) := by apply ByteArray.ext; simp [strB]
theorem strB_size (a : List Int) : (strB a).size = a.length := by
  have : (strB a).data.toList.length = (strB a).size := Array.length_toList
  rw [← this]; simp [strB]
def titTo (z : List Int) (k : Nat) : List Int := (z.drop 308).take k
theorem tit_step (z : List Int) (k : Nat) (h : 308 + k < z.length) : titTo z (k + 1) = titTo z k ++ [z.getD (308 + k) 0] := by
  unfold titTo
  rw [List.take_add_one, List.getElem?_drop, List.getD_eq_getElem?_getD, List.getElem?_eq_getElem h]
  rfl
theorem tw_all {p : Int → Bool} : ∀ (l : List Int), (∀ x ∈ l, p x = true) → l.takeWhile p = l
  | [], _ => rfl
  | a :: l, h => by rw [List.takeWhile_cons_of_pos (h a (by simp)), tw_all l (fun x hx => h x (by simp [hx]))]
theorem tw_app {p : Int → Bool} : ∀ (l r : List Int) (x : Int), (∀ y ∈ l, p y = true) → p x = false → (l ++ x :: r).takeWhile p = l
  | [], r, x, _, hx => by rw [List.nil_append, List.takeWhile_cons_of_neg (by rw [hx]; decide)]
  | a :: l, r, x, h, hx => by rw [List.cons_append, List.takeWhile_cons_of_pos (h a (by simp)), tw_app l r x (fun y hy => h y (by simp [hy])) hx]
theorem tit_mem (z : List Int) (k : Nat) (hz : 336 ≤ z.length) (hk : k ≤ 16) (h : ∀ j, j < k → signB (z.getD (308 + j) 0) = true) : ∀ x ∈ titTo z k, signB x = true := by
  intro x hx
  obtain ⟨j, hj, rfl⟩ := List.getElem_of_mem hx
  have hj2 : j < k := by unfold titTo at hj; simp at hj; omega
  have := h j hj2
  rw [List.getD_eq_getElem?_getD, List.getElem?_eq_getElem (by omega)] at this
  simpa [titTo] using this
theorem tit_full (z : List Int) (hz : 336 ≤ z.length) (h : ∀ j, j < 16 → signB (z.getD (308 + j) 0) = true) : titL z = titTo z 16 := tw_all _ (tit_mem z 16 hz (Nat.le_refl _) h)
theorem tit_end (z : List Int) (k : Nat) (hz : 336 ≤ z.length) (hk : k < 16) (h : ∀ j, j < k → signB (z.getD (308 + j) 0) = true) (hx : signB (z.getD (308 + k) 0) = false) : titL z = titTo z k := by
  have e : (z.drop 308).take 16 = titTo z k ++ z.getD (308 + k) 0 :: ((z.drop (308 + k + 1)).take (15 - k)) := by
    have d : z.drop (308 + k) = z.getD (308 + k) 0 :: z.drop (308 + k + 1) := by
      rw [List.drop_eq_getElem_cons (by omega), List.getD_eq_getElem?_getD, List.getElem?_eq_getElem (by omega)]; rfl
    have a := List.take_append_drop k ((z.drop 308).take 16)
    rw [List.take_take, List.drop_take, List.drop_drop, Nat.min_eq_left (by omega)] at a
    rw [← a]
    congr 1
    rw [d, show 16 - k = (15 - k) + 1 by omega, List.take_succ_cons]
  unfold titL
  rw [e]
  exact tw_app _ _ _ (tit_mem z k hz (by omega) h) hx
end Go.Proofs.YtbflhpffojlpgaaDoor
