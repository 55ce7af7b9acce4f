/- Bytes that lie in memory, as a string, for layer 7. Plain numbers of layer 7: images that are made; sums of images that differ in one byte. -/
import Derived.Test.YtecgpdjgbdobbabG09
import Derived.Test.YtecgpdjgbdobbabChecked
import Derived.Laws.BytesString
namespace Go.Proofs.Ytecgpdjgbdobbab
open Go.RowKit
set_option linter.unusedVariables false
set_option linter.unusedSimpArgs false

theorem strB_to (l : List Int) : ∀ r : ByteArray, l.foldl (fun r n => r.push (UInt8.ofNat n.toNat)) r = ⟨r.data ++ (l.map (fun n => UInt8.ofNat n.toNat)).toArray⟩ := by
  induction l with
  | nil => intro r; apply ByteArray.ext; simp
  | cons a l ih => intro r; rw [List.foldl_cons, ih]; apply ByteArray.ext; simp [ByteArray.push]
theorem strB_fold (l : List Int) : l.foldl (fun r n => r.push (UInt8.ofNat n.toNat)) ByteArray.empty = strB l := by
  rw [strB_to]
  apply ByteArray.ext
  simp [strB]
theorem conv_cells (w : World) (a : Addr) (cap : Nat) (ns : List Int) (h : ∀ j u, (ns.map (Value.int .u8))[j]? = some u → w.cell? (a.add j) = some u) : (convert 22 9 (.slice (some a) ns.length cap)).run Try.prog w = .ok (.string (strB ns)) w := by
  rw [run_convert_bytes_string w 22 9 5 _ _ _ Try.underlying22 Try.underlying5 Try.underlying9, ← strB_fold]
  refine run_bytesToString w a ns.length cap ns ?_
  have := run_loadCells_list (P := Try.prog) w a (ns.map (Value.int .u8)) h
  simpa using this
theorem conv_new (u : World) (x : Int) (n : Nat) (hn : n = u.heap.size) : (convert 22 9 (.slice (some ⟨n, 0, none⟩) 1 1)).run Try.prog (u.alloc (.cells #[.int .u8 x] 5)) = .ok (.string (strB [x])) (u.alloc (.cells #[.int .u8 x] 5)) := by
  subst hn
  exact conv_cells _ ⟨u.heap.size, 0, none⟩ 1 [x] (fun j v hj => by
    match j, hj with
    | 0, hj => simp at hj; subst hj; simp [Addr.add])
theorem conv_new_drew (u : World) (x : Int) (n : Nat) (hn : n = u.heap.size) : (convert 22 9 (.slice (some ⟨n, 0, none⟩) 1 1)).run Try.prog (u.alloc (.cells #[.int .u8 x] 5)).drew = .ok (.string (strB [x])) (u.alloc (.cells #[.int .u8 x] 5)).drew := by
  subst hn
  exact conv_cells (u.alloc (.cells #[.int .u8 x] 5)).drew ⟨u.heap.size, 0, none⟩ 1 [x] (fun j v hj => by
    match j, hj with
    | 0, hj => simp at hj; subst hj; show (u.alloc (.cells #[.int .u8 x] 5)).cell? _ = _; simp [Addr.add])
theorem strB_app (a b : List Int) : strB a ++ strB b = strB (a ++ b) := by apply ByteArray.ext; simp [strB]
theorem strB_size (a : List Int) : (strB a).size = a.length := by
  have : (strB a).data.toList.length = (strB a).size := Array.length_toList
  rw [← this]; simp [strB]
def titTo (z : List Int) (k : Nat) : List Int := (z.drop 308).take k
theorem tit_step (z : List Int) (k : Nat) (h : 308 + k < z.length) : titTo z (k + 1) = titTo z k ++ [z.getD (308 + k) 0] := by
  unfold titTo
  rw [List.take_add_one, List.getElem?_drop, List.getD_eq_getElem?_getD, List.getElem?_eq_getElem h]
  rfl
theorem tw_all {p : Int → Bool} : ∀ (l : List Int), (∀ x ∈ l, p x = true) → l.takeWhile p = l
  | [], _ => rfl
  | a :: l, h => by rw [List.takeWhile_cons_of_pos (h a (by simp)), tw_all l (fun x hx => h x (by simp [hx]))]
theorem tw_app {p : Int → Bool} : ∀ (l r : List Int) (x : Int), (∀ y ∈ l, p y = true) → p x = false → (l ++ x :: r).takeWhile p = l
  | [], r, x, _, hx => by rw [List.nil_append, List.takeWhile_cons_of_neg (by rw [hx]; decide)]
  | a :: l, r, x, h, hx => by rw [List.cons_append, List.takeWhile_cons_of_pos (h a (by simp)), tw_app l r x (fun y hy => h y (by simp [hy])) hx]
theorem tit_mem (z : List Int) (k : Nat) (hz : 336 ≤ z.length) (hk : k ≤ 16) (h : ∀ j, j < k → signB (z.getD (308 + j) 0) = true) : ∀ x ∈ titTo z k, signB x = true := by
  intro x hx
  obtain ⟨j, hj, rfl⟩ := List.getElem_of_mem hx
  have hj2 : j < k := by unfold titTo at hj; simp at hj; omega
  have := h j hj2
  rw [List.getD_eq_getElem?_getD, List.getElem?_eq_getElem (by omega)] at this
  simpa [titTo] using this
theorem tit_full (z : List Int) (hz : 336 ≤ z.length) (h : ∀ j, j < 16 → signB (z.getD (308 + j) 0) = true) : titL z = titTo z 16 := tw_all _ (tit_mem z 16 hz (Nat.le_refl _) h)
theorem tit_end (z : List Int) (k : Nat) (hz : 336 ≤ z.length) (hk : k < 16) (h : ∀ j, j < k → signB (z.getD (308 + j) 0) = true) (hx : signB (z.getD (308 + k) 0) = false) : titL z = titTo z k := by
  have e : (z.drop 308).take 16 = titTo z k ++ z.getD (308 + k) 0 :: ((z.drop (308 + k + 1)).take (15 - k)) := by
    have d : z.drop (308 + k) = z.getD (308 + k) 0 :: z.drop (308 + k + 1) := by
      rw [List.drop_eq_getElem_cons (by omega), List.getD_eq_getElem?_getD, List.getElem?_eq_getElem (by omega)]; rfl
    have a := List.take_append_drop k ((z.drop 308).take 16)
    rw [List.take_take, List.drop_take, List.drop_drop, Nat.min_eq_left (by omega)] at a
    rw [← a]
    congr 1
    rw [d, show 16 - k = (15 - k) + 1 by omega, List.take_succ_cons]
  unfold titL
  rw [e]
  exact tw_app _ _ _ (tit_mem z k hz (by omega) h) hx
end Go.Proofs.Ytecgpdjgbdobbab
namespace Go.Proofs.Ytecgpdjgbdobbab
open Go.RowKit
set_option linter.unusedVariables false
set_option linter.unusedSimpArgs false

theorem sumTo_congr (z y : List Int) (k : Nat) (h : ∀ i, i < k → z.getD (308 + i) 0 = y.getD (308 + i) 0) : sumTo z k = sumTo y k := by
  induction k with
  | zero => rfl
  | succ k ih => simp only [sumTo]; rw [ih (fun i hi => h i (by omega)), h k (by omega)]
def plusTo (z : List Int) : Nat → Int
  | 0 => 0
  | k + 1 => plusTo z k + z.getD (308 + k) 0 + 1
theorem sum_plus (z : List Int) (k : Nat) : (sumTo z k + plusTo z k) % 256 = 0 := by
  induction k with
  | zero => rfl
  | succ k ih => simp only [sumTo, plusTo]; omega
theorem plus_one (z y : List Int) (k j : Nat) (hj : j < k) (h : ∀ i, i < k → i ≠ j → z.getD (308 + i) 0 = y.getD (308 + i) 0) : plusTo y k = plusTo z k + y.getD (308 + j) 0 - z.getD (308 + j) 0 := by
  have same : ∀ m, m ≤ j → plusTo y m = plusTo z m := by
    intro m
    induction m with
    | zero => intro _; rfl
    | succ m ih => intro hm; simp only [plusTo]; rw [ih (by omega), h m (by omega) (by omega)]
  have all : ∀ m, m ≤ k → j < m → plusTo y m = plusTo z m + y.getD (308 + j) 0 - z.getD (308 + j) 0 := by
    intro m
    induction m with
    | zero => intro _ q; omega
    | succ m ih =>
      intro hm q
      simp only [plusTo]
      by_cases e : m = j
      · subst e; rw [same m (Nat.le_refl _)]; omega
      · rw [ih (by omega) (by omega), h m (by omega) e]; omega
  exact all k (Nat.le_refl _) hj
theorem sum_turned (z y : List Int) (j : Nat) (hj : j < 25) (h : ∀ i, i < 25 → i ≠ j → z.getD (308 + i) 0 = y.getD (308 + i) 0) (hz : InByte (z.getD (308 + j) 0)) (hy : InByte (y.getD (308 + j) 0)) (ne : z.getD (308 + j) 0 ≠ y.getD (308 + j) 0) : sumOf z ≠ sumOf y := by
  intro e
  unfold sumOf at e
  have a := sum_plus z 25
  have b := sum_plus y 25
  rw [plus_one z y 25 j hj h, ← e] at b
  have := hz.1; have := hz.2; have := hy.1; have := hy.2
  omega
theorem wholeTo_congr (z y : List Int) (k : Nat) (h : ∀ i, i < k → i ≠ 334 → i ≠ 335 → z.getD i 0 = y.getD i 0) : wholeTo z k = wholeTo y k := by
  induction k with
  | zero => rfl
  | succ k ih =>
    simp only [wholeTo]
    rw [ih (fun i hi => h i (by omega))]
    split
    · rfl
    · rename_i q
      rw [h k (by omega) (fun e => q (.inl e)) (fun e => q (.inr e))]
def headF (t : List Int) (k r m x : Int) (i : Nat) : Int :=
  if i = 257 then 195 else if i = 258 then 80 else if i = 259 then 1 else if 308 ≤ i ∧ i < 308 + t.length then t.getD (i - 308) 0 else if i = 327 then k else if i = 328 then r else if i = 329 then m else if i = 333 then x else 0
def headL (t : List Int) (k r m x : Int) : List Int := (List.range 336).map (headF t k r m x)
def headX (t : List Int) (k r m : Int) : Int := sumOf (headL t k r m 0)
def rawL (t : List Int) (k r m : Int) (c : List Int) : List Int := headL t k r m (headX t k r m) ++ c
def madeL (t : List Int) (k r m : Int) (c : List Int) : List Int := ((rawL t k r m c).set 334 (wholeOf (rawL t k r m c) / 256)).set 335 (wholeOf (rawL t k r m c) % 256)
theorem headL_len (t : List Int) (k r m x : Int) : (headL t k r m x).length = 336 := by simp [headL]
theorem headL_get (t : List Int) (k r m x : Int) (i : Nat) (hi : i < 336) : (headL t k r m x).getD i 0 = headF t k r m x i := by
  unfold headL
  rw [List.getD_eq_getElem?_getD, List.getElem?_map, List.getElem?_range hi]
  rfl
theorem rawL_len (t : List Int) (k r m : Int) (c : List Int) : (rawL t k r m c).length = 336 + c.length := by simp [rawL, headL_len]
theorem madeL_len (t : List Int) (k r m : Int) (c : List Int) : (madeL t k r m c).length = 336 + c.length := by simp [madeL, rawL_len]
theorem rawL_get (t : List Int) (k r m : Int) (c : List Int) (i : Nat) (hi : i < 336) : (rawL t k r m c).getD i 0 = headF t k r m (headX t k r m) i := by
  unfold rawL
  rw [List.getD_eq_getElem?_getD, List.getElem?_append_left (by rw [headL_len]; exact hi), ← List.getD_eq_getElem?_getD]
  exact headL_get _ _ _ _ _ i hi
theorem madeL_other (t : List Int) (k r m : Int) (c : List Int) (i : Nat) (h1 : i ≠ 334) (h2 : i ≠ 335) : (madeL t k r m c).getD i 0 = (rawL t k r m c).getD i 0 := by
  unfold madeL
  rw [List.getD_eq_getElem?_getD, List.getD_eq_getElem?_getD, List.getElem?_set_ne (by omega), List.getElem?_set_ne (by omega)]
theorem madeL_get (t : List Int) (k r m : Int) (c : List Int) (i : Nat) (hi : i < 334) : (madeL t k r m c).getD i 0 = headF t k r m (headX t k r m) i := by
  rw [madeL_other _ _ _ _ _ i (by omega) (by omega)]; exact rawL_get _ _ _ _ _ i (by omega)
theorem made_whole (t : List Int) (k r m : Int) (c : List Int) : wholeOf (madeL t k r m c) = wholeOf (rawL t k r m c) := by
  unfold wholeOf
  rw [madeL_len, rawL_len]
  exact wholeTo_congr _ _ _ (fun i _ h1 h2 => madeL_other t k r m c i h1 h2)
theorem made_334 (t : List Int) (k r m : Int) (c : List Int) : (madeL t k r m c).getD 334 0 = wholeOf (rawL t k r m c) / 256 ∧ (madeL t k r m c).getD 335 0 = wholeOf (rawL t k r m c) % 256 := by
  unfold madeL
  refine ⟨?_, ?_⟩
  · rw [List.getD_eq_getElem?_getD, List.getElem?_set_ne (by omega), List.getElem?_set_self (by rw [rawL_len]; omega)]; rfl
  · rw [List.getD_eq_getElem?_getD, List.getElem?_set_self (by rw [List.length_set, rawL_len]; omega)]; rfl
theorem headF_x (t : List Int) (k r m x y : Int) (i : Nat) (h : i ≠ 333) : headF t k r m x i = headF t k r m y i := by simp [headF, h]
theorem made_sum (t : List Int) (k r m : Int) (c : List Int) (ht : t.length ≤ 16) : sumOf (madeL t k r m c) = headX t k r m ∧ (madeL t k r m c).getD 333 0 = headX t k r m := by
  refine ⟨?_, ?_⟩
  · unfold headX sumOf
    refine sumTo_congr _ _ 25 (fun i hi => ?_)
    rw [madeL_get _ _ _ _ _ _ (by omega), headL_get _ _ _ _ _ _ (by omega)]
    exact headF_x _ _ _ _ _ _ _ (by omega)
  · rw [madeL_get _ _ _ _ _ _ (by omega)]
    unfold headF
    rw [if_neg (by omega), if_neg (by omega), if_neg (by omega), if_neg (by omega), if_neg (by omega), if_neg (by omega), if_neg (by omega), if_pos rfl]
theorem made_parse (t : List Int) (k r m : Int) (c : List Int) (ht : t.length ≤ 16) (hk : kindOk k = true) (hr : r ≤ 8) (hm : m ≤ 5) (hc : (c.length : Int) ≤ mostOf r - 336) : parseE (madeL t k r m c) = 0 := by
  have g : ∀ i, i < 334 → (madeL t k r m c).getD i 0 = headF t k r m (headX t k r m) i := fun i hi => madeL_get t k r m c i hi
  obtain ⟨s1, s2⟩ := made_sum t k r m c ht
  have e327 : (madeL t k r m c).getD 327 0 = k := by
    rw [g 327 (by omega)]; unfold headF
    rw [if_neg (by omega), if_neg (by omega), if_neg (by omega), if_neg (by omega), if_pos rfl]
  have e328 : (madeL t k r m c).getD 328 0 = r := by
    rw [g 328 (by omega)]; unfold headF
    rw [if_neg (by omega), if_neg (by omega), if_neg (by omega), if_neg (by omega), if_neg (by omega), if_pos rfl]
  have e329 : (madeL t k r m c).getD 329 0 = m := by
    rw [g 329 (by omega)]; unfold headF
    rw [if_neg (by omega), if_neg (by omega), if_neg (by omega), if_neg (by omega), if_neg (by omega), if_neg (by omega), if_pos rfl]
  unfold parseE
  rw [madeL_len, e327, e328, e329, s1, s2, if_neg (by omega), if_neg (by rw [hk]; decide), if_neg (by omega), if_neg (fun h => h rfl)]
theorem made_title (t : List Int) (k r m : Int) (c : List Int) (ht : t.length ≤ 16) (hs : ∀ x ∈ t, signB x = true) : titL (madeL t k r m c) = t := by
  have g : ∀ i, i < 16 → (madeL t k r m c).getD (308 + i) 0 = if i < t.length then t.getD i 0 else 0 := fun i hi => by
    rw [madeL_get _ _ _ _ _ _ (by omega)]
    unfold headF
    rw [if_neg (by omega), if_neg (by omega), if_neg (by omega)]
    by_cases q : i < t.length
    · rw [if_pos ⟨by omega, by omega⟩, if_pos q, Nat.add_sub_cancel_left]
    · rw [if_neg (by omega), if_neg (by omega), if_neg (by omega), if_neg (by omega), if_neg (by omega), if_neg q]
  have len : 336 ≤ (madeL t k r m c).length := by rw [madeL_len]; omega
  have sg : ∀ j, j < t.length → signB ((madeL t k r m c).getD (308 + j) 0) = true := fun j hj => by
    rw [g j (by omega), if_pos hj, List.getD_eq_getElem?_getD, List.getElem?_eq_getElem hj]
    exact hs _ (List.getElem_mem hj)
  have tt : titTo (madeL t k r m c) t.length = t := by
    apply List.ext_getElem?
    intro i
    unfold titTo
    by_cases q : i < t.length
    · rw [List.getElem?_take_of_lt q, List.getElem?_drop]
      have := g i (by omega)
      rw [if_pos q, List.getD_eq_getElem?_getD, List.getD_eq_getElem?_getD, List.getElem?_eq_getElem q, List.getElem?_eq_getElem (by omega)] at this
      simp only [Option.getD_some] at this
      rw [List.getElem?_eq_getElem (by omega), List.getElem?_eq_getElem q, this]
    · rw [List.getElem?_eq_none (by simp; omega), List.getElem?_eq_none (by omega)]
  by_cases q : t.length = 16
  · rw [tit_full _ len (fun j hj => sg j (by omega)), ← q, tt]
  · rw [tit_end _ t.length len (by omega) sg (by rw [g t.length (by omega), if_neg (by omega)]; decide), tt]
def makeE (t : List Int) (k r m : Int) (c : List Int) : Int :=
  if 16 < t.length ∨ t.all signB = false then 1 else if kindOk k = false then 4 else if 8 < r ∨ 5 < m ∨ mostOf r - 336 < (c.length : Int) then 5 else 0
def makeB (t : List Int) (k r m : Int) (c : List Int) : List Int := if makeE t k r m c = 0 then madeL t k r m c else []
theorem make_ok (t : List Int) (k r m : Int) (c : List Int) (h : makeE t k r m c = 0) : makeB t k r m c = madeL t k r m c ∧ t.length ≤ 16 ∧ (∀ x ∈ t, signB x = true) ∧ kindOk k = true ∧ r ≤ 8 ∧ m ≤ 5 ∧ (c.length : Int) ≤ mostOf r - 336 := by
  refine ⟨by unfold makeB; rw [if_pos h], ?_⟩
  unfold makeE at h
  split at h
  · cases h
  · rename_i h1
    split at h
    · cases h
    · rename_i h2
      split at h
      · cases h
      · rename_i h3
        rw [not_or] at h1
        refine ⟨by omega, ?_, by simpa using h2, by omega, by omega, by omega⟩
        have : t.all signB = true := by simpa using h1.2
        exact List.all_eq_true.1 this
theorem parse_no (z : List Int) (h : parseE z ≠ 0) : parseH z = hd0 := by unfold parseH; rw [if_neg h]
theorem parse_sum (z : List Int) (h : parseE z = 0) : 336 ≤ z.length ∧ sumOf z = z.getD 333 0 := by
  unfold parseE at h
  split at h
  · cases h
  · split at h
    · cases h
    · split at h
      · cases h
      · split at h
        · cases h
        · rename_i q; exact ⟨by omega, Classical.not_not.1 q⟩
theorem turned_no (z y : List Int) (j : Nat) (hj : j < 26) (h : ∀ i, i < 26 → i ≠ j → z.getD (308 + i) 0 = y.getD (308 + i) 0) (hz : InByte (z.getD (308 + j) 0)) (hy : InByte (y.getD (308 + j) 0)) (ne : z.getD (308 + j) 0 ≠ y.getD (308 + j) 0) (ok : parseE z = 0) : parseE y ≠ 0 := by
  intro e
  have a := (parse_sum z ok).2
  have b := (parse_sum y e).2
  by_cases q : j = 25
  · subst q
    have : sumOf z = sumOf y := sumTo_congr _ _ 25 (fun i hi => h i (by omega) (by omega))
    rw [this, b] at a
    exact ne a.symm
  · have s := sum_turned z y j (by omega) (fun i hi hn => h i (by omega) hn) hz hy ne
    have c := h 25 (by omega) (by omega)
    rw [a, b] at s
    exact s c
end Go.Proofs.Ytecgpdjgbdobbab
