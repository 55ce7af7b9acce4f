/- Plain: rows that are put in order, and keep the order of those of one key. Plain: two rows in order that come together; runs; what is in order and keeps those of one key is one only. -/
import Derived.Sort.Defs
import Derived.Sort.LotA
namespace Go.Proofs.Ytecgpdjgbdobbab
open Go.Sort
set_option linter.unusedVariables false
set_option linter.unusedSimpArgs false
set_option linter.unusedSectionVars false
section
variable {α : Type} [Inhabited α] (key : α → Nat)
/-- In order, from a up to b. -/
def Srt (d : Array α) (a b : Nat) : Prop := ∀ i j, a ≤ i → i < j → j < b → key d[i]! ≤ key d[j]!
/-- Those of one key, in their order. -/
def fil (k : Nat) (l : List α) : List α := l.filter (fun x => key x == k)
/-- What lies between a and b was moved, and those of one key are in the order that they were in. -/
structure Mv (d e : Array α) (a b : Nat) : Prop where
  size : e.size = d.size
  out : ∀ i, i < a ∨ b ≤ i → e[i]! = d[i]!
  inn : ∀ i, a ≤ i → i < b → ∃ j, a ≤ j ∧ j < b ∧ e[i]! = d[j]!
  same : ∀ k, fil key k e.toList = fil key k d.toList
theorem Mv.refl (d : Array α) (a b : Nat) : Mv key d d a b := ⟨rfl, fun _ _ => rfl, fun i h1 h2 => ⟨i, h1, h2, rfl⟩, fun _ => rfl⟩
variable {key}
theorem Mv.trans {d e f : Array α} {a b : Nat} (h : Mv key d e a b) (g : Mv key e f a b) : Mv key d f a b :=
  ⟨g.size.trans h.size, fun i hi => (g.out i hi).trans (h.out i hi), fun i h1 h2 => by
    obtain ⟨j, j1, j2, e1⟩ := g.inn i h1 h2
    obtain ⟨m, m1, m2, e2⟩ := h.inn j j1 j2
    exact ⟨m, m1, m2, e1.trans e2⟩, fun k => (g.same k).trans (h.same k)⟩
theorem Mv.wide {d e : Array α} {a b a2 b2 : Nat} (h : Mv key d e a b) (ha : a2 ≤ a) (hb : b ≤ b2) : Mv key d e a2 b2 :=
  ⟨h.size, fun i hi => h.out i (by omega), fun i h1 h2 => by
    by_cases q : a ≤ i ∧ i < b
    · obtain ⟨j, j1, j2, e1⟩ := h.inn i q.1 q.2
      exact ⟨j, by omega, by omega, e1⟩
    · exact ⟨i, h1, h2, h.out i (by omega)⟩, h.same⟩
theorem srt_out {d e : Array α} {a b p q : Nat} (h : Mv key d e a b) (s : Srt key d p q) (hd : q ≤ a ∨ b ≤ p) : Srt key e p q := fun i j h1 h2 h3 => by
  rw [h.out i (by omega), h.out j (by omega)]
  exact s i j h1 h2 h3
theorem srt_sub {d : Array α} {a b p q : Nat} (s : Srt key d a b) (h1 : a ≤ p) (h2 : q ≤ b) : Srt key d p q := fun i j a1 a2 a3 => s i j (by omega) a2 (by omega)
theorem srt_le {d : Array α} {a b : Nat} (s : Srt key d a b) {i j : Nat} (h1 : a ≤ i) (h2 : i ≤ j) (h3 : j < b) : key d[i]! ≤ key d[j]! := by
  rcases Nat.lt_or_eq_of_le h2 with h | h
  · exact s i j h1 h h3
  · subst h; exact Nat.le_refl _
theorem srt_nil (d : Array α) {a b : Nat} (h : b ≤ a + 1) : Srt key d a b := fun i j h1 h2 h3 => by omega
theorem get_list (d : Array α) (i : Nat) : d[i]! = d.toList[i]?.getD default := by
  rw [Array.getElem!_eq_getD, Array.getD_eq_getD_getElem?]; simp
theorem arr_eq {d e : Array α} (hs : d.size = e.size) (h : ∀ i, i < d.size → d[i]! = e[i]!) : d = e :=
  Array.ext hs fun i h1 h2 => by have := h i h1; rwa [getElem!_pos d i h1, getElem!_pos e i h2] at this
/-- From s on, what lay between m and b, and behind it what lay ahead of m. -/
def rotI (d : Array α) (s m b t : Nat) : α := if s ≤ t ∧ t < s + (b - m) then d[t + (m - s)]! else if s + (b - m) ≤ t ∧ t < b then d[t - (b - m)]! else d[t]!
theorem fil_swap {x u v y : List α} (h : ∀ p ∈ u, ∀ q ∈ v, key p ≠ key q) (k : Nat) : fil key k (x ++ v ++ u ++ y) = fil key k (x ++ u ++ v ++ y) := by
  unfold fil
  simp only [List.filter_append]
  by_cases q : ∃ p ∈ u, key p = k
  · obtain ⟨p, hp, e⟩ := q
    have : v.filter (fun x => key x == k) = [] := List.filter_eq_nil_iff.2 fun z hz c => h p hp z hz (by rw [e]; exact (by simpa using c : key z = k).symm)
    rw [this]; simp
  · have : u.filter (fun x => key x == k) = [] := List.filter_eq_nil_iff.2 fun z hz c => q ⟨z, hz, by simpa using c⟩
    rw [this]; simp
theorem rot_list {d e : Array α} {s m b : Nat} (h1 : s ≤ m) (h2 : m ≤ b) (h3 : b ≤ d.size) (hs : e.size = d.size) (h : ∀ t, t < d.size → e[t]! = rotI d s m b t) :
    e.toList = d.toList.take s ++ (d.toList.drop m).take (b - m) ++ (d.toList.drop s).take (m - s) ++ d.toList.drop b := by
  have L : d.toList.length = d.size := by simp
  refine List.ext_getElem? fun t => ?_
  by_cases ht : t < d.size
  · have q := h t ht
    rw [get_list] at q
    have e1 : e.toList[t]? = some (rotI d s m b t) := by
      rw [List.getElem?_eq_getElem (by simpa [hs] using ht)] at q ⊢
      exact congrArg some q
    rw [e1]
    clear q e1 h
    have g : ∀ i, i < d.size → some d[i]! = d.toList[i]? := fun i hi => by rw [get_list, List.getElem?_eq_getElem (by simpa using hi)]; rfl
    unfold rotI
    simp only [List.getElem?_append, List.getElem?_take, List.getElem?_drop, List.length_append, List.length_take, List.length_drop, L]
    have n1 : min s d.size = s := by omega
    have n2 : min (b - m) (d.size - m) = b - m := by omega
    have n3 : min (m - s) (d.size - s) = m - s := by omega
    rw [n1, n2, n3]
    by_cases c1 : t < s
    · rw [if_neg (by omega), if_neg (by omega), if_pos (by omega), if_pos (by omega), if_pos (by omega), if_pos (by omega)]; exact g t ht
    · by_cases c2 : t < s + (b - m)
      · rw [if_pos (by omega), if_pos (by omega), if_pos (by omega), if_neg (by omega), if_pos (by omega), g _ (by omega)]; congr 1; omega
      · by_cases c3 : t < b
        · rw [if_neg (by omega), if_pos (by omega), if_pos (by omega), if_neg (by omega), if_pos (by omega), g _ (by omega)]; congr 1; omega
        · rw [if_neg (by omega), if_neg (by omega), if_neg (by omega), g _ (by omega)]; congr 1; omega
  · rw [List.getElem?_eq_none (by simp; omega), List.getElem?_eq_none (by simp; omega)]
theorem list_four (l : List α) {s m b : Nat} (h1 : s ≤ m) (h2 : m ≤ b) : l = l.take s ++ (l.drop s).take (m - s) ++ (l.drop m).take (b - m) ++ l.drop b := by
  have a1 : l.drop m = (l.drop s).drop (m - s) := by rw [List.drop_drop]; congr 1; omega
  have a2 : l.drop b = (l.drop m).drop (b - m) := by rw [List.drop_drop]; congr 1; omega
  rw [a2, List.append_assoc, List.take_append_drop, a1, List.append_assoc, List.take_append_drop, List.take_append_drop]
theorem mem_part {d : Array α} {s n : Nat} {p : α} (h : p ∈ (d.toList.drop s).take n) : ∃ i, s ≤ i ∧ i < s + n ∧ i < d.size ∧ p = d[i]! := by
  obtain ⟨i, hi, e⟩ := List.getElem_of_mem h
  rw [List.length_take, List.length_drop] at hi
  refine ⟨s + i, by omega, by omega, by simp at hi; omega, ?_⟩
  rw [List.getElem_take, List.getElem_drop] at e
  rw [get_list, List.getElem?_eq_getElem (by simp at hi ⊢; omega), ← e]
  rfl
theorem mv_rot {d e : Array α} {s m b : Nat} (h1 : s ≤ m) (h2 : m ≤ b) (h3 : b ≤ d.size) (hs : e.size = d.size) (h : ∀ t, t < d.size → e[t]! = rotI d s m b t)
    (hk : ∀ i j, s ≤ i → i < m → m ≤ j → j < b → key d[i]! ≠ key d[j]!) : Mv key d e s b := by
  refine ⟨hs, fun i hi => ?_, fun i i1 i2 => ?_, fun k => ?_⟩
  · by_cases q : i < d.size
    · rw [h i q]; unfold rotI; rw [if_neg (by omega), if_neg (by omega)]
    · rw [get_list, get_list, List.getElem?_eq_none (by simp; omega), List.getElem?_eq_none (by simp; omega)]
  · rw [h i (by omega)]; unfold rotI
    by_cases c : i < s + (b - m)
    · rw [if_pos (by omega)]; exact ⟨_, by omega, by omega, rfl⟩
    · rw [if_neg (by omega), if_pos (by omega)]; exact ⟨_, by omega, by omega, rfl⟩
  · rw [rot_list h1 h2 h3 hs h]
    conv => rhs; rw [list_four d.toList h1 h2]
    refine fil_swap (fun p hp q hq => ?_) k
    obtain ⟨i, i1, i2, i3, rfl⟩ := mem_part hp
    obtain ⟨j, j1, j2, j3, rfl⟩ := mem_part hq
    exact hk i j i1 (by omega) j1 (by omega)
theorem swp_at (d : Array α) {i j : Nat} (hi : i < d.size) (hj : j < d.size) (t : Nat) : (swp d i j)[t]! = if t = j then d[i]! else if t = i then d[j]! else d[t]! := swp_get d hi hj t
theorem mv_swp {d : Array α} {i : Nat} (hi : i + 1 < d.size) (hk : key d[i]! ≠ key d[i + 1]!) : Mv key d (swp d i (i + 1)) i (i + 2) := by
  refine mv_rot (m := i + 1) (by omega) (by omega) (by omega) (size_swp d i (i + 1)) (fun t ht => ?_) (fun p q p1 p2 q1 q2 => ?_)
  · rw [swp_at d (by omega) hi]
    unfold rotI
    by_cases c1 : t = i + 1
    · subst c1; rw [if_pos rfl, if_neg (by omega), if_pos (by omega)]; congr 1; omega
    · rw [if_neg c1]
      by_cases c2 : t = i
      · subst c2; rw [if_pos rfl, if_pos (by omega)]; congr 1; omega
      · rw [if_neg c2, if_neg (by omega), if_neg (by omega)]
  · obtain rfl : p = i := by omega
    obtain rfl : q = p + 1 := by omega
    exact hk
theorem swp_comm (d : Array α) {i j : Nat} (hi : i < d.size) (hj : j < d.size) : swp d i j = swp d j i := by
  refine arr_eq (by rw [size_swp, size_swp]) fun t ht => ?_
  rw [swp_at d hi hj, swp_at d hj hi]
  by_cases c1 : t = j
  · by_cases c2 : t = i
    · subst c1; subst c2; rfl
    · rw [if_pos c1, if_neg c2, if_pos c1]
  · by_cases c2 : t = i
    · rw [if_neg c1, if_pos c2, if_pos c2]
    · rw [if_neg c1, if_neg c2, if_neg c2, if_neg c1]
theorem mv_swp2 {d : Array α} {i : Nat} (hi : i + 1 < d.size) (hk : key d[i]! ≠ key d[i + 1]!) : Mv key d (swp d (i + 1) i) i (i + 2) := by
  rw [swp_comm d hi (by omega)]; exact mv_swp hi hk
end
section
variable {α : Type} [Inhabited α] {key : α → Nat}
theorem mv_ins (lt : α → α → Bool) (hl : ∀ x y, lt x y = true → key x < key y) (a b : Nat) : ∀ (j : Nat) (d : Array α), j < b → b ≤ d.size → Mv key d (insInner lt a j d) a b
  | 0, d, _, _ => Mv.refl key d a b
  | j + 1, d, hj, hb => by
    unfold insInner
    by_cases c : (decide (j + 1 > a) && lt d[j + 1]! d[j]!) = true
    · rw [if_pos c]
      simp only [Bool.and_eq_true, decide_eq_true_eq] at c
      have h1 := (mv_swp2 (key := key) (d := d) (i := j) (by omega) (by have := hl _ _ c.2; omega)).wide (a2 := a) (b2 := b) (by omega) (by omega)
      exact h1.trans (mv_ins lt hl a b j _ (by omega) (by rw [size_swp]; exact hb))
    · rw [if_neg c]; exact Mv.refl key d a b
theorem mv_outer (lt : α → α → Bool) (hl : ∀ x y, lt x y = true → key x < key y) (a b : Nat) : ∀ (n i : Nat) (d : Array α), b - i ≤ n → b ≤ d.size → Mv key d (insOuter lt a b i d) a b
  | 0, i, d, hn, hb => by unfold insOuter; rw [if_neg (by omega)]; exact Mv.refl key d a b
  | n + 1, i, d, hn, hb => by
    unfold insOuter
    by_cases c : i < b
    · rw [if_pos c]
      have h1 := mv_ins lt hl a b i d c hb
      exact h1.trans (mv_outer lt hl a b n (i + 1) _ (by omega) (by rw [h1.size]; exact hb))
    · rw [if_neg c]; exact Mv.refl key d a b
end
end Go.Proofs.Ytecgpdjgbdobbab
namespace Go.Proofs.Ytecgpdjgbdobbab
open Go.Sort
set_option linter.unusedVariables false
set_option linter.unusedSimpArgs false
set_option linter.unusedSectionVars false
section
variable {α : Type} [Inhabited α] {key : α → Nat}
theorem srt_glue {e : Array α} {a mid b : Nat} (S1 : Srt key e a mid) (S2 : Srt key e mid b) (X : ∀ p q, a ≤ p → p < mid → mid ≤ q → q < b → key e[p]! ≤ key e[q]!) : Srt key e a b := fun i j h1 h2 h3 => by
  by_cases c1 : j < mid
  · exact S1 i j h1 h2 c1
  · by_cases c2 : mid ≤ i
    · exact S2 i j c2 h2 h3
    · exact X i j h1 (by omega) (by omega) h3
/-- What is true of two rows in order, once the middle was turned about. -/
theorem sym_rot {d e : Array α} {a m b s n : Nat} (hs : e.size = d.size) (hr : ∀ t, t < d.size → e[t]! = rotI d s m n t) (S1 : Srt key d a m) (S2 : Srt key d m b)
    (h1 : a ≤ s) (h2 : s ≤ m) (h3 : m ≤ n) (h4 : n ≤ b) (h5 : b ≤ d.size)
    (H1 : s < m → m < n → key d[n - 1]! < key d[s]!) (H2 : a < s → n < b → key d[s - 1]! ≤ key d[n]!) :
    Mv key d e a b ∧ Srt key e a s ∧ Srt key e s (s + (n - m)) ∧ Srt key e (s + (n - m)) n ∧ Srt key e n b ∧ ∀ p q, a ≤ p → p < s + (n - m) → s + (n - m) ≤ q → q < b → key e[p]! ≤ key e[q]! := by
  have eA : ∀ t, a ≤ t → t < s → e[t]! = d[t]! := fun t _ q => by rw [hr t (by omega)]; unfold rotI; rw [if_neg (by omega), if_neg (by omega)]
  have eB : ∀ t, s ≤ t → t < s + (n - m) → e[t]! = d[t + (m - s)]! := fun t _ q => by rw [hr t (by omega)]; unfold rotI; rw [if_pos (by omega)]
  have eC : ∀ t, s + (n - m) ≤ t → t < n → e[t]! = d[t - (n - m)]! := fun t _ q => by rw [hr t (by omega)]; unfold rotI; rw [if_neg (by omega), if_pos (by omega)]
  have eD : ∀ t, n ≤ t → t < b → e[t]! = d[t]! := fun t _ q => by rw [hr t (by omega)]; unfold rotI; rw [if_neg (by omega), if_neg (by omega)]
  have K : ∀ i j, s ≤ i → i < m → m ≤ j → j < n → key d[j]! < key d[i]! := fun i j i1 i2 j1 j2 => by
    have q1 := H1 (by omega) (by omega)
    have q2 := srt_le S1 (i := s) (j := i) h1 i1 i2
    have q3 := srt_le S2 (i := j) (j := n - 1) j1 (by omega) (by omega)
    omega
  refine ⟨(mv_rot h2 h3 (by omega) hs hr (fun i j i1 i2 j1 j2 => by have := K i j i1 i2 j1 j2; omega)).wide h1 h4, ?_, ?_, ?_, ?_, ?_⟩
  · intro i j i1 i2 i3
    rw [eA i i1 (by omega), eA j (by omega) i3]; exact S1 i j i1 i2 (by omega)
  · intro i j i1 i2 i3
    rw [eB i i1 (by omega), eB j (by omega) i3]; exact S2 _ _ (by omega) (by omega) (by omega)
  · intro i j i1 i2 i3
    rw [eC i i1 (by omega), eC j (by omega) i3]; exact S1 _ _ (by omega) (by omega) (by omega)
  · intro i j i1 i2 i3
    rw [eD i i1 (by omega), eD j (by omega) i3]; exact S2 _ _ (by omega) (by omega) (by omega)
  · intro p q p1 p2 q1 q2
    by_cases cp : p < s
    · rw [eA p p1 cp]
      by_cases cq : q < n
      · rw [eC q q1 cq]; exact srt_le S1 p1 (by omega) (by omega)
      · rw [eD q (by omega) q2]
        have z1 := srt_le S1 (i := p) (j := s - 1) p1 (by omega) (by omega)
        have z2 := H2 (by omega) (by omega)
        have z3 := srt_le S2 (i := n) (j := q) h3 (by omega) q2
        omega
    · rw [eB p (by omega) p2]
      by_cases cq : q < n
      · rw [eC q q1 cq]
        have := K (q - (n - m)) (p + (m - s)) (by omega) (by omega) (by omega) (by omega)
        omega
      · rw [eD q (by omega) q2]; exact srt_le S2 (by omega) (by omega) q2
theorem sym_end {e f g : Array α} {a mid b : Nat} (M1 : Mv key e f a mid) (S1 : Srt key f a mid) (M2 : Mv key f g mid b) (S2 : Srt key g mid b) (h1 : a ≤ mid) (h2 : mid ≤ b)
    (X : ∀ p q, a ≤ p → p < mid → mid ≤ q → q < b → key e[p]! ≤ key e[q]!) : Mv key e g a b ∧ Srt key g a b := by
  refine ⟨(M1.wide (Nat.le_refl _) h2).trans (M2.wide h1 (Nat.le_refl _)), srt_glue (mid := mid) (fun i j i1 i2 i3 => ?_) S2 (fun p q p1 p2 q1 q2 => ?_)⟩
  · rw [M2.out i (by omega), M2.out j (by omega)]; exact S1 i j i1 i2 i3
  · obtain ⟨j, j1, j2, e1⟩ := M2.inn q q1 q2
    obtain ⟨i, i1, i2, e2⟩ := M1.inn p p1 p2
    rw [M2.out p (by omega), e1, M1.out j (by omega), e2]
    exact X i j i1 i2 j1 j2
theorem rot_up {d c : Array α} {a k : Nat} (hc : c.size = d.size) (h : ∀ t, t < d.size → c[t]! = rotI d a (a + 1) (k + 1) t) (h1 : a ≤ k) (h2 : k + 1 < d.size) : ∀ t, t < d.size → (swp c k (k + 1))[t]! = rotI d a (a + 1) (k + 2) t := fun t ht => by
  rw [swp_at c (by omega) (by omega)]
  by_cases c1 : t = k + 1
  · subst c1
    rw [if_pos rfl, h k (by omega)]
    unfold rotI
    rw [if_neg (by omega), if_pos (by omega), if_neg (by omega), if_pos (by omega)]
    congr 1; omega
  · rw [if_neg c1]
    by_cases c2 : t = k
    · subst c2
      rw [if_pos rfl, h (t + 1) (by omega)]
      unfold rotI
      rw [if_neg (by omega), if_neg (by omega), if_pos (by omega)]
      congr 1; omega
    · rw [if_neg c2, h t ht]
      unfold rotI
      by_cases c3 : a ≤ t ∧ t < k
      · rw [if_pos (by omega), if_pos (by omega)]
      · rw [if_neg (by omega), if_neg (by omega), if_neg (by omega), if_neg (by omega)]
theorem rot_down {d c : Array α} {k m : Nat} (hc : c.size = d.size) (h : ∀ t, t < d.size → c[t]! = rotI d (k + 1) m (m + 1) t) (h1 : k + 1 ≤ m) (h2 : m < d.size) : ∀ t, t < d.size → (swp c (k + 1) k)[t]! = rotI d k m (m + 1) t := fun t ht => by
  rw [swp_at c (by omega) (by omega)]
  by_cases c1 : t = k
  · subst c1
    rw [if_pos rfl, h (t + 1) (by omega)]
    unfold rotI
    rw [if_pos (by omega), if_pos (by omega)]
    congr 1; omega
  · rw [if_neg c1]
    by_cases c2 : t = k + 1
    · subst c2
      rw [if_pos rfl, h k (by omega)]
      unfold rotI
      rw [if_neg (by omega), if_neg (by omega), if_neg (by omega), if_pos (by omega)]
      congr 1; omega
    · rw [if_neg c2, h t ht]
      unfold rotI
      by_cases c3 : k + 1 < t ∧ t < m + 1
      · rw [if_neg (by omega), if_pos (by omega), if_neg (by omega), if_pos (by omega)]
      · rw [if_neg (by omega), if_neg (by omega), if_neg (by omega), if_neg (by omega)]
theorem rot_same (d : Array α) (s b t : Nat) : rotI d s s b t = d[t]! := by
  unfold rotI
  by_cases c : s ≤ t ∧ t < s + (b - s)
  · rw [if_pos c, Nat.sub_self, Nat.add_zero]
  · rw [if_neg c, if_neg (by omega)]
theorem rot_same2 (d : Array α) (s m t : Nat) : rotI d s m m t = d[t]! := by
  unfold rotI
  rw [if_neg (by omega), Nat.sub_self, Nat.add_zero, Nat.sub_zero]
  split <;> rfl
/-- The first one alone goes to its place. -/
theorem one_left {d e : Array α} {a b i : Nat} (hs : e.size = d.size) (hr : ∀ t, t < d.size → e[t]! = rotI d a (a + 1) i t) (S2 : Srt key d (a + 1) b) (h2 : a + 1 ≤ i) (h3 : i ≤ b) (h5 : b ≤ d.size)
    (L : ∀ t, a + 1 ≤ t → t < i → key d[t]! < key d[a]!) (R : ∀ t, i ≤ t → t < b → key d[a]! ≤ key d[t]!) : Mv key d e a b ∧ Srt key e a b := by
  obtain ⟨M, _, T1, T2, T3, X⟩ := sym_rot (key := key) hs hr (srt_nil d (by omega)) S2 (Nat.le_refl a) (by omega) h2 h3 h5 (fun _ q => L (i - 1) (by omega) (by omega)) (fun q _ => by omega)
  refine ⟨M, srt_glue T1 (fun p q p1 p2 p3 => ?_) X⟩
  by_cases c : i ≤ p
  · exact T3 p q c p2 p3
  · have ep : e[p]! = d[a]! := by
      rw [hr p (by omega)]; unfold rotI; rw [if_neg (by omega), if_pos (by omega)]; congr 1; omega
    have eq : e[q]! = d[q]! := by
      rw [hr q (by omega)]; unfold rotI; rw [if_neg (by omega), if_neg (by omega)]
    rw [ep, eq]; exact R q (by omega) p3
/-- The last one alone goes to its place. -/
theorem one_right {d e : Array α} {a m i : Nat} (hs : e.size = d.size) (hr : ∀ t, t < d.size → e[t]! = rotI d i m (m + 1) t) (S1 : Srt key d a m) (h1 : a ≤ i) (h2 : i ≤ m) (h5 : m + 1 ≤ d.size)
    (L : ∀ t, a ≤ t → t < i → key d[t]! ≤ key d[m]!) (R : ∀ t, i ≤ t → t < m → key d[m]! < key d[t]!) : Mv key d e a (m + 1) ∧ Srt key e a (m + 1) := by
  obtain ⟨M, T1, T2, T3, _, X⟩ := sym_rot (key := key) (b := m + 1) hs hr S1 (srt_nil d (by omega)) h1 h2 (by omega) (Nat.le_refl _) h5 (fun q _ => by rw [Nat.add_sub_cancel]; exact R i (Nat.le_refl _) q) (fun _ q => by omega)
  have e1 : i + (m + 1 - m) = i + 1 := by omega
  rw [e1] at T2 T3 X
  refine ⟨M, srt_glue (mid := i + 1) (fun p q p1 p2 p3 => ?_) T3 X⟩
  by_cases c : q < i
  · exact T1 p q p1 p2 c
  · have eq : e[q]! = d[m]! := by
      rw [hr q (by omega)]; unfold rotI; rw [if_pos (by omega)]; congr 1; omega
    have ep : e[p]! = d[p]! := by
      rw [hr p (by omega)]; unfold rotI; rw [if_neg (by omega), if_neg (by omega)]
    rw [ep, eq]; exact L p p1 (by omega)
/-- Two parts of a row changed for each other, i places of them so far. -/
def swpI (d : Array α) (a b i t : Nat) : α := if a ≤ t ∧ t < a + i then d[t - a + b]! else if b ≤ t ∧ t < b + i then d[t - b + a]! else d[t]!
theorem swp_next {d c : Array α} {a b i : Nat} (hc : c.size = d.size) (h : ∀ t, t < d.size → c[t]! = swpI d a b i t) (h1 : a + i < b) (h2 : b + i < d.size) : ∀ t, t < d.size → (swp c (a + i) (b + i))[t]! = swpI d a b (i + 1) t := fun t ht => by
  rw [swp_at c (by omega) (by omega)]
  by_cases c1 : t = b + i
  · subst c1
    rw [if_pos rfl, h (a + i) (by omega)]
    unfold swpI
    rw [if_neg (by omega), if_neg (by omega), if_neg (by omega), if_pos (by omega)]
    congr 1; omega
  · rw [if_neg c1]
    by_cases c2 : t = a + i
    · subst c2
      rw [if_pos rfl, h (b + i) (by omega)]
      unfold swpI
      rw [if_neg (by omega), if_neg (by omega), if_pos (by omega)]
      congr 1; omega
    · rw [if_neg c2, h t ht]
      unfold swpI
      by_cases c3 : a ≤ t ∧ t < a + i
      · rw [if_pos c3, if_pos (by omega)]
      · by_cases c4 : b ≤ t ∧ t < b + i
        · rw [if_neg c3, if_pos c4, if_neg (by omega), if_pos (by omega)]
        · rw [if_neg c3, if_neg c4, if_neg (by omega), if_neg (by omega)]
theorem swp_none (d : Array α) (a b t : Nat) : swpI d a b 0 t = d[t]! := by unfold swpI; rw [if_neg (by omega), if_neg (by omega)]
/-- A rotation's round: the left part is the longer one. -/
theorem rot_gt {c c2 : Array α} {m i j : Nat} (hc : c2.size = c.size) (h : ∀ t, t < c.size → c2[t]! = swpI c (m - i) m j t) (h1 : j < i) (h0 : 0 < j) (h2 : i ≤ m) (h3 : m + j ≤ c.size) : ∀ t, t < c.size → rotI c2 (m - (i - j)) m (m + j) t = rotI c (m - i) m (m + j) t := fun t ht => by
  have e1 : m + j - m = j := by omega
  have e2 : m - (m - (i - j)) = i - j := by omega
  have e3 : m - (m - i) = i := by omega
  unfold rotI
  rw [e1, e2, e3]
  by_cases k1 : t < m - i
  · rw [if_neg (by omega), if_neg (by omega), if_neg (by omega), if_neg (by omega), h t ht]; unfold swpI; rw [if_neg (by omega), if_neg (by omega)]
  · by_cases k2 : t < m - i + j
    · rw [if_neg (by omega), if_neg (by omega), if_pos (by omega), h t ht]; unfold swpI; rw [if_pos (by omega)]; congr 1; omega
    · by_cases k3 : t < m - (i - j) + j
      · rw [if_pos (by omega), if_neg (by omega), if_pos (by omega), h _ (by omega)]; unfold swpI; rw [if_neg (by omega), if_pos (by omega)]; congr 1; omega
      · by_cases k4 : t < m + j
        · rw [if_neg (by omega), if_pos (by omega), if_neg (by omega), if_pos (by omega), h _ (by omega)]; unfold swpI; rw [if_neg (by omega), if_neg (by omega)]
        · rw [if_neg (by omega), if_neg (by omega), if_neg (by omega), if_neg (by omega), h t ht]; unfold swpI; rw [if_neg (by omega), if_neg (by omega)]
/-- A rotation's round: the right part is the longer one. -/
theorem rot_lt {c c2 : Array α} {m i j : Nat} (hc : c2.size = c.size) (h : ∀ t, t < c.size → c2[t]! = swpI c (m - i) (m + j - i) i t) (h1 : i < j) (h0 : 0 < i) (h2 : i ≤ m) (h3 : m + j ≤ c.size) : ∀ t, t < c.size → rotI c2 (m - i) m (m + (j - i)) t = rotI c (m - i) m (m + j) t := fun t ht => by
  have e1 : m + j - m = j := by omega
  have e2 : m + (j - i) - m = j - i := by omega
  have e3 : m - (m - i) = i := by omega
  unfold rotI
  rw [e1, e2, e3]
  by_cases k1 : t < m - i
  · rw [if_neg (by omega), if_neg (by omega), if_neg (by omega), if_neg (by omega), h t ht]; unfold swpI; rw [if_neg (by omega), if_neg (by omega)]
  · by_cases k2 : t < m - i + (j - i)
    · rw [if_pos (by omega), if_pos (by omega), h _ (by omega)]; unfold swpI; rw [if_neg (by omega), if_neg (by omega)]
    · by_cases k3 : t < m - i + j
      · rw [if_neg (by omega), if_pos (by omega), if_pos (by omega), h _ (by omega)]; unfold swpI; rw [if_pos (by omega)]; congr 1; omega
      · by_cases k4 : t < m + j
        · rw [if_neg (by omega), if_neg (by omega), if_neg (by omega), if_pos (by omega), h t ht]; unfold swpI; rw [if_neg (by omega), if_pos (by omega)]; congr 1; omega
        · rw [if_neg (by omega), if_neg (by omega), if_neg (by omega), if_neg (by omega), h t ht]; unfold swpI; rw [if_neg (by omega), if_neg (by omega)]
theorem rot_eq {c : Array α} {m i : Nat} (h2 : i ≤ m) (t : Nat) : swpI c (m - i) m i t = rotI c (m - i) m (m + i) t := by
  have e1 : m + i - m = i := by omega
  have e3 : m - (m - i) = i := by omega
  unfold rotI swpI
  rw [e1, e3]
  by_cases k1 : m - i ≤ t ∧ t < m - i + i
  · rw [if_pos k1, if_pos k1]; congr 1; omega
  · rw [if_neg k1, if_neg k1]
    by_cases k2 : m ≤ t ∧ t < m + i
    · rw [if_pos k2, if_pos (by omega)]; congr 1; omega
    · rw [if_neg k2, if_neg (by omega)]
/-- In order, as a list. -/
def Up (key : α → Nat) (l : List α) : Prop := l.Pairwise (fun x y => key x ≤ key y)
theorem up_of {d : Array α} (h : Srt key d 0 d.size) : Up key d.toList := by
  refine List.pairwise_iff_getElem.2 fun i j hi hj hij => ?_
  have := h i j (Nat.zero_le _) hij (by simpa using hj)
  rw [get_list, get_list, List.getElem?_eq_getElem hi, List.getElem?_eq_getElem hj] at this
  exact this
theorem mem_fil {l : List α} {x : α} : x ∈ fil key (key x) l ↔ x ∈ l := by unfold fil; simp
theorem fil_uniq : ∀ (l m : List α), Up key l → Up key m → (∀ k, fil key k l = fil key k m) → l = m
  | [], [], _, _, _ => rfl
  | [], b :: m, _, _, h => by
    have : b ∈ fil key (key b) (b :: m) := mem_fil.2 (by simp)
    rw [← h] at this; simp [fil] at this
  | a :: l, [], _, _, h => by
    have : a ∈ fil key (key a) (a :: l) := mem_fil.2 (by simp)
    rw [h] at this; simp [fil] at this
  | a :: l, b :: m, hl, hm, h => by
    have a1 : a ∈ b :: m := by have : a ∈ fil key (key a) (a :: l) := mem_fil.2 (by simp); rw [h] at this; exact mem_fil.1 this
    have b1 : b ∈ a :: l := by have : b ∈ fil key (key b) (b :: m) := mem_fil.2 (by simp); rw [← h] at this; exact mem_fil.1 this
    have hl' := List.pairwise_cons.1 hl
    have hm' := List.pairwise_cons.1 hm
    have k1 : key b ≤ key a := by
      rcases List.mem_cons.1 a1 with q | q
      · rw [q]; exact Nat.le_refl _
      · exact hm'.1 a q
    have k2 : key a ≤ key b := by
      rcases List.mem_cons.1 b1 with q | q
      · rw [q]; exact Nat.le_refl _
      · exact hl'.1 b q
    have kk : key a = key b := by omega
    have ab : a = b := by
      have := h (key a)
      unfold fil at this
      rw [List.filter_cons_of_pos (by simp), List.filter_cons_of_pos (by simp [kk])] at this
      exact (List.cons.inj this).1
    subst ab
    rw [fil_uniq l m hl'.2 hm'.2 fun k => ?_]
    have := h k
    unfold fil at this ⊢
    by_cases q : key a = k
    · rw [List.filter_cons_of_pos (by simp [q]), List.filter_cons_of_pos (by simp [q])] at this
      exact (List.cons.inj this).2
    · rw [List.filter_cons_of_neg (by simp [q]), List.filter_cons_of_neg (by simp [q])] at this
      exact this
/-- What is put in order: those of one key stay in their order. -/
def Stab (key : α → Nat) (l m : List α) : Prop := Up key m ∧ ∀ k, fil key k m = fil key k l
theorem stab_uniq {l m n : List α} (h : Stab key l m) (g : Stab key l n) : m = n := fil_uniq m n h.1 g.1 fun k => (h.2 k).trans (g.2 k).symm
theorem stab_same {l m n : List α} (h : Stab key l m) (g : Stab key m n) : n = m := fil_uniq n m g.1 h.1 g.2
theorem stab_ins {l out : List α} {x : α} {k : Nat} (h : Stab key l out) (hk : k ≤ out.length) (hi : ∀ t (ht : t < out.length), k ≤ t → key x < key out[t]) (lo : ∀ t (ht : t < out.length), t < k → key out[t] ≤ key x) :
    Stab key (l ++ [x]) (out.take k ++ [x] ++ out.drop k) := by
  have hlo : ∀ p ∈ out.take k, key p ≤ key x := fun p hp => by
    obtain ⟨t, ht, e⟩ := List.getElem_of_mem hp
    rw [List.getElem_take] at e
    rw [← e]; rw [List.length_take] at ht
    exact lo t (by omega) (by omega)
  have hhi : ∀ p ∈ out.drop k, key x < key p := fun p hp => by
    obtain ⟨t, ht, e⟩ := List.getElem_of_mem hp
    rw [List.getElem_drop] at e
    rw [← e]; rw [List.length_drop] at ht
    exact hi (k + t) (by omega) (by omega)
  have hu := h.1
  unfold Up at hu
  rw [← List.take_append_drop k out] at hu
  obtain ⟨u1, u2, u3⟩ := List.pairwise_append.1 hu
  refine ⟨?_, fun q => ?_⟩
  · unfold Up
    refine List.pairwise_append.2 ⟨List.pairwise_append.2 ⟨u1, List.pairwise_singleton _ _, fun p hp z hz => ?_⟩, u2, fun p hp z hz => ?_⟩
    · rw [List.mem_singleton.1 hz]; exact hlo p hp
    · rcases List.mem_append.1 hp with hp | hp
      · exact u3 p hp z hz
      · rw [List.mem_singleton.1 hp]; exact Nat.le_of_lt (hhi z hz)
  · have e := fil_swap (key := key) (x := out.take k) (u := out.drop k) (v := [x]) (y := []) (fun p hp z hz => by rw [List.mem_singleton.1 hz]; have := hhi p hp; omega) q
    rw [List.append_nil, List.append_nil, List.take_append_drop] at e
    rw [e]
    have := h.2 q
    unfold fil at this ⊢
    rw [List.filter_append, List.filter_append, this]
theorem stab_count {l m : List α} [DecidableEq α] (h : Stab key l m) (x : α) : m.count x = l.count x := by
  have := h.2 (key x)
  unfold fil at this
  rw [← List.count_filter (p := fun y => key y == key x) (l := m) (by simp), this, List.count_filter (by simp)]
theorem stab_len {l m : List α} {d e : Array α} (h : Mv key d e 0 d.size) (s : Srt key e 0 d.size) : Stab key d.toList e.toList := ⟨up_of (by rw [h.size]; exact s), h.same⟩
/-- Runs of s places, from the first place on, up to n. -/
def Runs (key : α → Nat) (d : Array α) (s n : Nat) : Prop := ∀ q, Srt key d (q * s) (min ((q + 1) * s) n)
theorem runs_done {d : Array α} {p t n : Nat} (h : ∀ q, q < p → Srt key d (q * t) ((q + 1) * t)) (h2 : Srt key d (p * t) n) (h3 : n < p * t + t) : Runs key d t n := fun q => by
  rcases Nat.lt_trichotomy q p with c | c | c
  · exact srt_sub (h q c) (Nat.le_refl _) (Nat.min_le_left _ _)
  · subst c; exact srt_sub h2 (Nat.le_refl _) (Nat.min_le_right _ _)
  · have : (p + 1) * t ≤ q * t := Nat.mul_le_mul_right _ c
    rw [Nat.add_mul, Nat.one_mul] at this
    exact srt_nil d (by omega)
theorem runs_all {d : Array α} {s n : Nat} (h : Runs key d s n) (hs : n ≤ s) : Srt key d 0 n := by
  have := h 0
  rw [Nat.zero_mul] at this
  exact srt_sub this (Nat.le_refl _) (by omega)
/-- Run by run, two at a time. -/
theorem runs_two {d : Array α} {s n p : Nat} (h : Runs key d s n) : Srt key d (p * (2 * s)) (min (p * (2 * s) + s) n) ∧ Srt key d (p * (2 * s) + s) (min (p * (2 * s) + 2 * s) n) := by
  have a := h (p * 2)
  have b := h (p * 2 + 1)
  rw [Nat.add_mul, Nat.one_mul, Nat.mul_assoc] at a
  rw [Nat.add_mul, Nat.one_mul, Nat.mul_assoc, Nat.add_mul, Nat.add_mul, Nat.one_mul, Nat.mul_assoc] at b
  exact ⟨a, srt_sub b (Nat.le_refl _) (by omega)⟩
end
end Go.Proofs.Ytecgpdjgbdobbab
