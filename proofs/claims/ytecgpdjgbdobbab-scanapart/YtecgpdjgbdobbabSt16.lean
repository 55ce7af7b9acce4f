/- Plain: rows that are put in order, and keep the order of those of one key. -/
import Derived.Sort.Defs
import Derived.Sort.LotA
namespace Go.Proofs.Ytecgpdjgbdobbab
open Go.Sort
set_option linter.unusedVariables false
set_option linter.unusedSimpArgs false
set_option linter.unusedSectionVars false
section
variable {α : Type} [Inhabited α] (key : α → Nat)
/-- In order, from a up to b. -/
def Srt (d : Array α) (a b : Nat) : Prop := ∀ i j, a ≤ i → i < j → j < b → key d[i]! ≤ key d[j]!
/-- Those of one key, in their order. -/
def fil (k : Nat) (l : List α) : List α := l.filter (fun x => key x == k)
/-- What lies between a and b was moved, and those of one key are in the order that they were in. -/
structure Mv (d e : Array α) (a b : Nat) : Prop where
  size : e.size = d.size
  out : ∀ i, i < a ∨ b ≤ i → e[i]! = d[i]!
  inn : ∀ i, a ≤ i → i < b → ∃ j, a ≤ j ∧ j < b ∧ e[i]! = d[j]!
  same : ∀ k, fil key k e.toList = fil key k d.toList
theorem Mv.refl (d : Array α) (a b : Nat) : Mv key d d a b := ⟨rfl, fun _ _ => rfl, fun i h1 h2 => ⟨i, h1, h2, rfl⟩, fun _ => rfl⟩
variable {key}
theorem Mv.trans {d e f : Array α} {a b : Nat} (h : Mv key d e a b) (g : Mv key e f a b) : Mv key d f a b :=
  ⟨g.size.trans h.size, fun i hi => (g.out i hi).trans (h.out i hi), fun i h1 h2 => by
    obtain ⟨j, j1, j2, e1⟩ := g.inn i h1 h2
    obtain ⟨m, m1, m2, e2⟩ := h.inn j j1 j2
    exact ⟨m, m1, m2, e1.trans e2⟩, fun k => (g.same k).trans (h.same k)⟩
theorem Mv.wide {d e : Array α} {a b a2 b2 : Nat} (h : Mv key d e a b) (ha : a2 ≤ a) (hb : b ≤ b2) : Mv key d e a2 b2 :=
  ⟨h.size, fun i hi => h.out i (by omega), fun i h1 h2 => by
    by_cases q : a ≤ i ∧ i < b
    · obtain ⟨j, j1, j2, e1⟩ := h.inn i q.1 q.2
      exact ⟨j, by omega, by omega, e1⟩
    · exact ⟨i, h1, h2, h.out i (by omega)⟩, h.same⟩
theorem srt_out {d e : Array α} {a b p q : Nat} (h : Mv key d e a b) (s : Srt key d p q) (hd : q ≤ a ∨ b ≤ p) : Srt key e p q := fun i j h1 h2 h3 => by
  rw [h.out i (by omega), h.out j (by omega)]
  exact s i j h1 h2 h3
theorem srt_sub {d : Array α} {a b p q : Nat} (s : Srt key d a b) (h1 : a ≤ p) (h2 : q ≤ b) : Srt key d p q := fun i j a1 a2 a3 => s i j (by omega) a2 (by omega)
theorem srt_le {d : Array α} {a b : Nat} (s : Srt key d a b) {i j : Nat} (h1 : a ≤ i) (h2 : i ≤ j) (h3 : j < b) : key d[i]! ≤ key d[j]! := by
  rcases Nat.lt_or_eq_of_le h2 with h | h
  · exact s i j h1 h h3
  · subst h; exact Nat.le_refl _
theorem srt_nil (d : Array α) {a b : Nat} (h : b ≤ a + 1) : Srt key d a b := fun i j h1 h2 h3 => by omega
theorem get_list (d : Array α) (i : Nat) : d[i]! = d.toList[i]?.getD default := by
  rw [Array.getElem!_eq_getD, Array.getD_eq_getD_getElem?]; simp
theorem arr_eq {d e : Array α} (hs : d.size = e.size) (h : ∀ i, i < d.size → d[i]! = e[i]!) : d = e :=
  Array.ext hs fun i h1 h2 => by have := h i h1; rwa [getElem!_pos d i h1, getElem!_pos e i h2] at this
/-- From s on, what lay between m and b, and behind it what lay ahead of m. -/
def rotI (d : Array α) (s m b t : Nat) : α := if s ≤ t ∧ t < s + (b - m) then d[t + (m - s)]! else if s + (b - m) ≤ t ∧ t < b then d[t - (b - m)]! else d[t]!
theorem fil_swap {x u v y : List α} (h : ∀ p ∈ u, ∀ q ∈ v, key p ≠ key q) (k : Nat) : fil key k (x ++ v ++ u ++ y) = fil key k (x ++ u ++ v ++ y) := by
  unfold fil
  simp only [List.filter_append]
  by_cases q : ∃ p ∈ u, key p = k
  · obtain ⟨p, hp, e⟩ := q
    have : v.filter (fun x => key x == k) = [] := List.filter_eq_nil_iff.2 fun z hz c => h p hp z hz (by rw [e]; exact (by simpa using c : key z = k).symm)
    rw [this]; simp
  · have : u.filter (fun x => key x == k) = [] := List.filter_eq_nil_iff.2 fun z hz c => q ⟨z, hz, by simpa using c⟩
    rw [this]; simp
theorem rot_list {d e : Array α} {s m b : Nat} (h1 : s ≤ m) (h2 : m ≤ b) (h3 : b ≤ d.size) (hs : e.size = d.size) (h : ∀ t, t < d.size → e[t]! = rotI d s m b t) :
    e.toList = d.toList.take s ++ (d.toList.drop m).take (b - m) ++ (d.toList.drop s).take (m - s) ++ d.toList.drop b := by
  have L : d.toList.length = d.size := by simp
  refine List.ext_getElem? fun t => ?_
  by_cases ht : t < d.size
  · have q := h t ht
    rw [get_list] at q
    have e1 : e.toList[t]? = some (rotI d s m b t) := by
      rw [List.getElem?_eq_getElem (by simpa [hs] using ht)] at q ⊢
      exact congrArg some q
    rw [e1]
    clear q e1 h
    have g : ∀ i, i < d.size → some d[i]! = d.toList[i]? := fun i hi => by rw [get_list, List.getElem?_eq_getElem (by simpa using hi)]; rfl
    unfold rotI
    simp only [List.getElem?_append, List.getElem?_take, List.getElem?_drop, List.length_append, List.length_take, List.length_drop, L]
    have n1 : min s d.size = s := by omega
    have n2 : min (b - m) (d.size - m) = b - m := by omega
    have n3 : min (m - s) (d.size - s) = m - s := by omega
    rw [n1, n2, n3]
    by_cases c1 : t < s
    · rw [if_neg (by omega), if_neg (by omega), if_pos (by omega), if_pos (by omega), if_pos (by omega), if_pos (by omega)]; exact g t ht
    · by_cases c2 : t < s + (b - m)
      · rw [if_pos (by omega), if_pos (by omega), if_pos (by omega), if_neg (by omega), if_pos (by omega), g _ (by omega)]; congr 1; omega
      · by_cases c3 : t < b
        · rw [if_neg (by omega), if_pos (by omega), if_pos (by omega), if_neg (by omega), if_pos (by omega), g _ (by omega)]; congr 1; omega
        · rw [if_neg (by omega), if_neg (by omega), if_neg (by omega), g _ (by omega)]; congr 1; omega
  · rw [List.getElem?_eq_none (by simp; omega), List.getElem?_eq_none (by simp; omega)]
theorem list_four (l : List α) {s m b : Nat} (h1 : s ≤ m) (h2 : m ≤ b) : l = l.take s ++ (l.drop s).take (m - s) ++ (l.drop m).take (b - m) ++ l.drop b := by
  have a1 : l.drop m = (l.drop s).drop (m - s) := by rw [List.drop_drop]; congr 1; omega
  have a2 : l.drop b = (l.drop m).drop (b - m) := by rw [List.drop_drop]; congr 1; omega
  rw [a2, List.append_assoc, List.take_append_drop, a1, List.append_assoc, List.take_append_drop, List.take_append_drop]
theorem mem_part {d : Array α} {s n : Nat} {p : α} (h : p ∈ (d.toList.drop s).take n) : ∃ i, s ≤ i ∧ i < s + n ∧ i < d.size ∧ p = d[i]! := by
  obtain ⟨i, hi, e⟩ := List.getElem_of_mem h
  rw [List.length_take, List.length_drop] at hi
  refine ⟨s + i, by omega, by omega, by simp at hi; omega, ?_⟩
  rw [List.getElem_take, List.getElem_drop] at e
  rw [get_list, List.getElem?_eq_getElem (by simp at hi ⊢; omega), ← e]
  rfl
theorem mv_rot {d e : Array α} {s m b : Nat} (h1 : s ≤ m) (h2 : m ≤ b) (h3 : b ≤ d.size) (hs : e.size = d.size) (h : ∀ t, t < d.size → e[t]! = rotI d s m b t)
    (hk : ∀ i j, s ≤ i → i < m → m ≤ j → j < b → key d[i]! ≠ key d[j]!) : Mv key d e s b := by
  refine ⟨hs, fun i hi => ?_, fun i i1 i2 => ?_, fun k => ?_⟩
  · by_cases q : i < d.size
    · rw [h i q]; unfold rotI; rw [if_neg (by omega), if_neg (by omega)]
    · rw [get_list, get_list, List.getElem?_eq_none (by simp; omega), List.getElem?_eq_none (by simp; omega)]
  · rw [h i (by omega)]; unfold rotI
    by_cases c : i < s + (b - m)
    · rw [if_pos (by omega)]; exact ⟨_, by omega, by omega, rfl⟩
    · rw [if_neg (by omega), if_pos (by omega)]; exact ⟨_, by omega, by omega, rfl⟩
  · rw [rot_list h1 h2 h3 hs h]
    conv => rhs; rw [list_four d.toList h1 h2]
    refine fil_swap (fun p hp q hq => ?_) k
    obtain ⟨i, i1, i2, i3, rfl⟩ := mem_part hp
    obtain ⟨j, j1, j2, j3, rfl⟩ := mem_part hq
    exact hk i j i1 (by omega) j1 (by omega)
theorem swp_at (d : Array α) {i j : Nat} (hi : i < d.size) (hj : j < d.size) (t : Nat) : (swp d i j)[t]! = if t = j then d[i]! else if t = i then d[j]! else d[t]! := swp_get d hi hj t
theorem mv_swp {d : Array α} {i : Nat} (hi : i + 1 < d.size) (hk : key d[i]! ≠ key d[i + 1]!) : Mv key d (swp d i (i + 1)) i (i + 2) := by
  refine mv_rot (m := i + 1) (by omega) (by omega) (by omega) (size_swp d i (i + 1)) (fun t ht => ?_) (fun p q p1 p2 q1 q2 => ?_)
  · rw [swp_at d (by omega) hi]
    unfold rotI
    by_cases c1 : t = i + 1
    · subst c1; rw [if_pos rfl, if_neg (by omega), if_pos (by omega)]; congr 1; omega
    · rw [if_neg c1]
      by_cases c2 : t = i
      · subst c2; rw [if_pos rfl, if_pos (by omega)]; congr 1; omega
      · rw [if_neg c2, if_neg (by omega), if_neg (by omega)]
  · obtain rfl : p = i := by omega
    obtain rfl : q = p + 1 := by omega
    exact hk
theorem swp_comm (d : Array α) {i j : Nat} (hi : i < d.size) (hj : j < d.size) : swp d i j = swp d j i := by
  refine arr_eq (by rw [size_swp, size_swp]) fun t ht => ?_
  rw [swp_at d hi hj, swp_at d hj hi]
  by_cases c1 : t = j
  · by_cases c2 : t = i
    · subst c1; subst c2; rfl
    · rw [if_pos c1, if_neg c2, if_pos c1]
  · by_cases c2 : t = i
    · rw [if_neg c1, if_pos c2, if_pos c2]
    · rw [if_neg c1, if_neg c2, if_neg c2, if_neg c1]
theorem mv_swp2 {d : Array α} {i : Nat} (hi : i + 1 < d.size) (hk : key d[i]! ≠ key d[i + 1]!) : Mv key d (swp d (i + 1) i) i (i + 2) := by
  rw [swp_comm d hi (by omega)]; exact mv_swp hi hk
end
section
variable {α : Type} [Inhabited α] {key : α → Nat}
theorem mv_ins (lt : α → α → Bool) (hl : ∀ x y, lt x y = true → key x < key y) (a b : Nat) : ∀ (j : Nat) (d : Array α), j < b → b ≤ d.size → Mv key d (insInner lt a j d) a b
  | 0, d, _, _ => Mv.refl key d a b
  | j + 1, d, hj, hb => by
    unfold insInner
    by_cases c : (decide (j + 1 > a) && lt d[j + 1]! d[j]!) = true
    · rw [if_pos c]
      simp only [Bool.and_eq_true, decide_eq_true_eq] at c
      have h1 := (mv_swp2 (key := key) (d := d) (i := j) (by omega) (by have := hl _ _ c.2; omega)).wide (a2 := a) (b2 := b) (by omega) (by omega)
      exact h1.trans (mv_ins lt hl a b j _ (by omega) (by rw [size_swp]; exact hb))
    · rw [if_neg c]; exact Mv.refl key d a b
theorem mv_outer (lt : α → α → Bool) (hl : ∀ x y, lt x y = true → key x < key y) (a b : Nat) : ∀ (n i : Nat) (d : Array α), b - i ≤ n → b ≤ d.size → Mv key d (insOuter lt a b i d) a b
  | 0, i, d, hn, hb => by unfold insOuter; rw [if_neg (by omega)]; exact Mv.refl key d a b
  | n + 1, i, d, hn, hb => by
    unfold insOuter
    by_cases c : i < b
    · rw [if_pos c]
      have h1 := mv_ins lt hl a b i d c hb
      exact h1.trans (mv_outer lt hl a b n (i + 1) _ (by omega) (by rw [h1.size]; exact hb))
    · rw [if_neg c]; exact Mv.refl key d a b
end
end Go.Proofs.Ytecgpdjgbdobbab
