/- Slices of objects: those that come in, and those of the call's own. Slices of strips: objects with the two bytes of their rows. -/
import Derived.Test.YtecgpdjgbdobbabG15
import Derived.Test.YtecgpdjgbdobbabG13
namespace Go.Proofs.Ytecgpdjgbdobbab
open Go.RowKit
set_option linter.unusedVariables false
set_option linter.unusedSimpArgs false

/-- A slice of objects: where they lie, their room, and they. -/
structure SlO (w : World) (a : Option Addr) (cap : Nat) (L : List Ob) : Prop where
  row : FRow w a 5 (L.map obC)
  len : L.length ≤ cap
  max : cap ≤ maxLen
  nil : a = none → cap = 0
/-- An object lies at an address. -/
structure OAt (u : World) (y : Addr) (o : Ob) : Prop where
  c0 : u.cell? y = some (b8 o.1)
  c1 : u.cell? ⟨y.block, y.off + 1, none⟩ = some (b8 o.2.1)
  c2 : u.cell? ⟨y.block, y.off + 2, none⟩ = some (b8 o.2.2.1)
  c3 : u.cell? ⟨y.block, y.off + 3, none⟩ = some (b8 o.2.2.2.1)
  c4 : u.cell? ⟨y.block, y.off + 4, none⟩ = some (b8 o.2.2.2.2)
theorem frow_kept {W w : World} (k : Kept W w) {a : Option Addr} {c : Nat} {els : List (List Value)} (h : FRow W a c els) : FRow w a c els := by
  refine ⟨h.1, ?_⟩
  rcases h.2 with h | ⟨x, e, hx, hc⟩
  · exact .inl h
  · exact .inr ⟨x, e, Nat.lt_of_lt_of_le hx k.size, fun i cs hi j hj => (k.cell (x := x.add (i * c + j)) (by rw [addFB]; exact hx)).trans (hc i cs hi j hj)⟩
theorem slO_kept {W w : World} (k : Kept W w) {a : Option Addr} {cap : Nat} {L : List Ob} (h : SlO W a cap L) : SlO w a cap L := ⟨frow_kept k h.row, h.len, h.max, h.nil⟩
theorem slO_nil (w : World) : SlO w none 0 [] := ⟨⟨by simp, .inl rfl⟩, by simp, by simp, fun _ => rfl⟩
theorem oat_kept {W w : World} (k : Kept W w) {y : Addr} {o : Ob} (hy : y.block < W.heap.size) (h : OAt W y o) : OAt w y o :=
  ⟨(k.cell hy).trans h.c0, (k.cell (x := ⟨y.block, y.off + 1, none⟩) hy).trans h.c1, (k.cell (x := ⟨y.block, y.off + 2, none⟩) hy).trans h.c2, (k.cell (x := ⟨y.block, y.off + 3, none⟩) hy).trans h.c3, (k.cell (x := ⟨y.block, y.off + 4, none⟩) hy).trans h.c4⟩
theorem slO_at {w : World} {a : Option Addr} {cap : Nat} {L : List Ob} (h : SlO w a cap L) (hl : 0 < L.length) : ∃ x : Addr, a = some x ∧ x.block < w.heap.size ∧ ∀ j, j < L.length → OAt w (x.add (j * 5)) (L.getD j default) := by
  obtain ⟨x, e, hx, hc⟩ := frow_getD (default : Ob) h.row hl
  have off : ∀ (j i : Nat), 0 < i → x.add (j * 5 + i) = ⟨(x.add (j * 5)).block, (x.add (j * 5)).off + i, none⟩ := fun j i hi => by rw [← addF]; unfold Addr.add; rw [if_neg (by omega)]
  refine ⟨x, e, hx, fun j hj => ⟨?_, ?_, ?_, ?_, ?_⟩⟩
  · exact (hc j hj 0 (by decide))
  · rw [← off j 1 (by decide)]; exact (hc j hj 1 (by decide))
  · rw [← off j 2 (by decide)]; exact (hc j hj 2 (by decide))
  · rw [← off j 3 (by decide)]; exact (hc j hj 3 (by decide))
  · rw [← off j 4 (by decide)]; exact (hc j hj 4 (by decide))
theorem slO_take {w : World} {a : Option Addr} {cap : Nat} {L : List Ob} (h : SlO w a cap L) (k : Nat) {cap2 : Nat} (h1 : min k L.length ≤ cap2) (h2 : cap2 ≤ maxLen) (h3 : a = none → cap2 = 0) : SlO w a cap2 (L.take k) := by
  refine ⟨⟨by have := h.row.1; simp at this ⊢; omega, ?_⟩, by simpa using h1, h2, h3⟩
  rcases h.row.2 with q | ⟨x, e, hx, hc⟩
  · left
    rw [List.map_eq_nil_iff] at q
    rw [q]; simp
  · refine .inr ⟨x, e, hx, fun i cs hi j hj => hc i cs ?_ j hj⟩
    rw [List.map_take, List.getElem?_take] at hi
    split at hi
    · exact hi
    · cases hi
theorem slO_drop {w : World} {x : Addr} {cap : Nat} {L : List Ob} (h : SlO w (some x) cap L) (k : Nat) {cap2 : Nat} (h1 : L.length - k ≤ cap2) (h2 : cap2 ≤ maxLen) : SlO w (some (x.add (k * 5))) cap2 (L.drop k) := by
  refine ⟨⟨by have := h.row.1; simp at this ⊢; omega, ?_⟩, by simpa using h1, h2, fun e => by cases e⟩
  rcases h.row.2 with q | ⟨y, e, hx, hc⟩
  · left
    rw [List.map_eq_nil_iff] at q
    rw [q]; simp
  · obtain rfl : x = y := Option.some.inj e
    refine .inr ⟨_, rfl, by rw [addFB]; exact hx, fun i cs hi j hj => ?_⟩
    rw [List.map_drop, List.getElem?_drop] at hi
    have := hc (k + i) cs hi j hj
    rw [addF]
    rw [show k * 5 + (i * 5 + j) = (k + i) * 5 + j by omega]
    exact this
theorem slO_dropI {w : World} {x : Addr} {cap : Nat} {L : List Ob} (h : SlO w (some x) cap L) (k : Nat) : SlO w (if cap = k then some x else some (x.add (k * 5))) (cap - k) (L.drop k) := by
  have hl := h.len
  have hm := h.max
  by_cases c : cap = k
  · rw [if_pos c]
    have e : L.drop k = [] := List.drop_eq_nil_of_le (by omega)
    rw [e]
    exact ⟨⟨by simp, .inl rfl⟩, by simp, by omega, fun e => by cases e⟩
  · rw [if_neg c]
    exact slO_drop h k (by omega) (by omega)
/-- Objects of the call's own. -/
abbrev OwnO (w : World) (base : Nat) (v : Value) (L : List Ob) : Prop := w.ownsRow base 52 5 v L.length (L.flatMap obC)
theorem flat_len (L : List Ob) : (L.flatMap obC).length = L.length * 5 := by
  induction L with
  | nil => rfl
  | cons o l ih => rw [List.flatMap_cons, List.length_append, ih, obC_len, List.length_cons]; omega
theorem flat_at (L : List Ob) : ∀ (i j : Nat), j < 5 → (L.flatMap obC)[i * 5 + j]? = (L.map obC)[i]?.bind (fun cs => cs[j]?) := by
  induction L with
  | nil => intro i j _; simp
  | cons o l ih =>
    intro i j hj
    rw [List.flatMap_cons, List.getElem?_append, obC_len]
    cases i with
    | zero =>
      rw [if_pos (by omega)]
      simp
    | succ i =>
      rw [if_neg (by omega), show (i + 1) * 5 + j - 5 = i * 5 + j by omega, ih i j hj]
      simp
theorem flat_get {L : List Ob} {i : Nat} {cs : List Value} (h : (L.map obC)[i]? = some cs) {j : Nat} (hj : j < 5) : (L.flatMap obC)[i * 5 + j]? = cs[j]? := by
  rw [flat_at L i j hj, h]; rfl
theorem own_slO {w : World} {base : Nat} {v : Value} {L : List Ob} (o : OwnO w base v L) : ∃ a cap, v = .slice a L.length cap ∧ SlO w a cap L ∧ Newer base a := by
  obtain ⟨_, ⟨h1, h2⟩ | ⟨g, cap, cur, h1, hg, hh, h3, h4, h5, h6⟩⟩ := id o
  · obtain rfl := List.eq_nil_of_length_eq_zero h2
    exact ⟨none, 0, h1, slO_nil w, fun x h => by cases h⟩
  · refine ⟨some ⟨g, 0, none⟩, cap, h1, ⟨⟨by simp; omega, .inr ⟨_, rfl, (Array.getElem?_eq_some_iff.1 hh).1, fun i cs hi j hj => ?_⟩⟩, h3, h4, (fun h => by cases h)⟩, fun x h => by cases h; exact hg⟩
    have e := flat_get hi hj
    cases hv : cs[j]? with
    | none =>
      exfalso
      rw [List.getElem?_map] at hi
      cases hL : L[i]? with
      | none => rw [hL] at hi; cases hi
      | some q =>
        rw [hL] at hi
        simp at hi
        rw [← hi] at hv
        rw [List.getElem?_eq_getElem (by rw [obC_len]; exact hj)] at hv
        cases hv
    | some u =>
      rw [hv] at e
      exact o.cells (by rw [h1]; rfl) (i * 5 + j) u e
theorem slO_news {w : World} {x : Addr} {cap : Nat} {M : List Ob} (h : SlO w (some x) cap M) : ∀ j u, (M.flatMap obC)[j]? = some u → w.cell? (x.add j) = some u := by
  intro j u hu
  have hj : j < M.length * 5 := by
    rw [← flat_len]
    by_cases q : j < (M.flatMap obC).length
    · exact q
    · rw [List.getElem?_eq_none (by omega)] at hu; cases hu
  have ej : j / 5 * 5 + j % 5 = j := by omega
  rcases h.row.2 with q | ⟨y, e, hx, hc⟩
  · rw [List.map_eq_nil_iff] at q
    rw [q] at hu; simp at hu
  · obtain rfl : x = y := Option.some.inj e
    have hi : (M.map obC)[j / 5]? = some (obC (M[j / 5]'(by omega))) := by rw [List.getElem?_map, List.getElem?_eq_getElem (by omega)]; rfl
    have a := hc (j / 5) _ hi (j % 5) (by omega)
    have b := flat_get hi (j := j % 5) (by omega)
    rw [ej] at a b
    rw [a, ← b]
    exact hu
theorem info16 : (Try.prog.info? 52).map (fun i => (i.zero, i.size, i.bytes)) = some (some (.agg #[.int .u8 0, .int .u8 0, .int .u8 0, .int .u8 0, .int .u8 0]), 5, 5) := by kernel_rfl
/-- append(s, x...), s the call's own, x whatever objects. -/
theorem wl_appendO {w : World} {ops : Array Oper} {rest : List Oper} {o : Oper} {a : Act} {Q : Exit → Act → World → Prop} {s x : Operand} {base : Nat} {v : Value} {L : List Ob} {ax : Option Addr} {cap lz : Nat} {M : List Ob}
    (own : OwnO w base v L) (sl : SlO w ax cap M) (hgd : o.guard = none) (ho : o.op = .call { callee := .builtin .append, args := #[s, x], argTypes := #[63, 63] })
    (hs : a.eval s = v) (hx : a.eval x = .slice ax lz cap) (hlz : lz = M.length) (hb : base ≤ w.heap.size) (hm : L.length + M.length ≤ 1000000)
    (h : ∀ v' u, OwnO u base v' (L ++ M) → w.grownBy u v.ownBlock → wpList Try.prog ops Q rest (a.put o.dst v') u) : wpList Try.prog ops Q (o :: rest) a w := by
  obtain ⟨i0, hi, hz0, hz1, hz2⟩ := info_parts info16
  subst hlz
  cases ax with
  | none =>
    obtain rfl : cap = 0 := sl.nil rfl
    have z0 := sl.len
    obtain rfl : M = [] := List.eq_nil_of_length_eq_zero (by omega)
    refine wpList_append_own_none hgd s x 63 ho base 52 i0 5 Try.underlying63 hi v _ _ hs own hx ?_
    refine h v w (by rw [List.append_nil]; exact own) ⟨rfl, rfl, rfl, Nat.le_refl _, fun _ _ _ => rfl⟩
  | some y =>
    refine wpList_append_own _ hgd s x 63 ho base 52 i0 _ 5 5 Try.underlying63 hi hz0 hz1 hz2 rfl (by decide) v _ _ hs own y M.length cap (M.flatMap obC) hx (flat_len M) (slO_news sl) ?_ ?_ ?_ hb ?_
    · intro u hu
      obtain ⟨q, _, hq⟩ := List.mem_flatMap.1 hu
      exact obC_one q u hq
    · unfold maxLen; omega
    · omega
    · intro v' u h1 h2 _
      refine h v' u ?_ h2
      show u.ownsRow base _ 5 v' (L ++ M).length ((L ++ M).flatMap obC)
      rw [List.length_append, List.flatMap_append]
      exact h1
theorem ownO_empty (w : World) {base : Nat} (hb : base ≤ w.heap.size) : OwnO (w.alloc (.cells #[] 52)) base (.slice (some ⟨w.heap.size, 0, none⟩) ([] : List Ob).length 0) [] :=
  World.ownsRow_made w #[] 0 hb (by decide) rfl
theorem ownO_nil (w : World) (base : Nat) : OwnO w base (.slice none 0 0) [] := World.ownsRow_nil _ _ _ _
theorem one_slO (w : World) (o : Ob) : SlO (w.alloc (.cells (obC o).toArray 52)) (some ⟨w.heap.size, 0, none⟩) 1 [o] := by
  refine ⟨⟨by simp [maxLen], .inr ⟨_, rfl, by simp, fun i cs hi j hj => ?_⟩⟩, by simp, by simp [maxLen], fun e => by cases e⟩
  cases i with
  | zero =>
    simp at hi
    subst hi
    rw [Nat.zero_mul, Nat.zero_add, ownB_add, cell_of_row _ w.heap.size j (obC o).toArray 52 (0, 0) (heap_alloc_new w _)]
    simp
  | succ i => simp at hi
end Go.Proofs.Ytecgpdjgbdobbab
namespace Go.Proofs.Ytecgpdjgbdobbab
open Go.RowKit
set_option linter.unusedVariables false
set_option linter.unusedSimpArgs false

/-- A strip: an object, and the two bytes of its row. -/
abbrev Sp : Type := Ob × Int × Int
def spC (s : Sp) : List Value := [b8 s.1.1, b8 s.1.2.1, b8 s.1.2.2.1, b8 s.1.2.2.2.1, b8 s.1.2.2.2.2, .int .u8 s.2.1, .int .u8 s.2.2]
theorem spC_len (o : Sp) : (spC o).length = 7 := rfl
theorem spC_one (o : Sp) : ∀ v ∈ spC o, v.oneCell' = true := by
  intro v hv
  simp [spC] at hv
  rcases hv with rfl | rfl | rfl | rfl | rfl | rfl | rfl <;> rfl
/-- A slice of objects: where they lie, their room, and they. -/
structure SlS (w : World) (a : Option Addr) (cap : Nat) (L : List Sp) : Prop where
  row : FRow w a 7 (L.map spC)
  len : L.length ≤ cap
  max : cap ≤ maxLen
  nil : a = none → cap = 0
/-- An object lies at an address. -/
structure SAt (u : World) (y : Addr) (o : Sp) : Prop where
  c0 : u.cell? y = some (b8 o.1.1)
  c1 : u.cell? ⟨y.block, y.off + 1, none⟩ = some (b8 o.1.2.1)
  c2 : u.cell? ⟨y.block, y.off + 2, none⟩ = some (b8 o.1.2.2.1)
  c3 : u.cell? ⟨y.block, y.off + 3, none⟩ = some (b8 o.1.2.2.2.1)
  c4 : u.cell? ⟨y.block, y.off + 4, none⟩ = some (b8 o.1.2.2.2.2)
  c5 : u.cell? ⟨y.block, y.off + 5, none⟩ = some (.int .u8 o.2.1)
  c6 : u.cell? ⟨y.block, y.off + 6, none⟩ = some (.int .u8 o.2.2)
theorem slS_kept {W w : World} (k : Kept W w) {a : Option Addr} {cap : Nat} {L : List Sp} (h : SlS W a cap L) : SlS w a cap L := ⟨frow_kept k h.row, h.len, h.max, h.nil⟩
theorem slS_nil (w : World) : SlS w none 0 [] := ⟨⟨by simp, .inl rfl⟩, by simp, by simp, fun _ => rfl⟩
theorem sat_kept {W w : World} (k : Kept W w) {y : Addr} {o : Sp} (hy : y.block < W.heap.size) (h : SAt W y o) : SAt w y o :=
  ⟨(k.cell hy).trans h.c0, (k.cell (x := ⟨y.block, y.off + 1, none⟩) hy).trans h.c1, (k.cell (x := ⟨y.block, y.off + 2, none⟩) hy).trans h.c2, (k.cell (x := ⟨y.block, y.off + 3, none⟩) hy).trans h.c3, (k.cell (x := ⟨y.block, y.off + 4, none⟩) hy).trans h.c4, (k.cell (x := ⟨y.block, y.off + 5, none⟩) hy).trans h.c5, (k.cell (x := ⟨y.block, y.off + 6, none⟩) hy).trans h.c6⟩
theorem slS_at {w : World} {a : Option Addr} {cap : Nat} {L : List Sp} (h : SlS w a cap L) (hl : 0 < L.length) : ∃ x : Addr, a = some x ∧ x.block < w.heap.size ∧ ∀ j, j < L.length → SAt w (x.add (j * 7)) (L.getD j default) := by
  obtain ⟨x, e, hx, hc⟩ := frow_getD (default : Sp) h.row hl
  have off : ∀ (j i : Nat), 0 < i → x.add (j * 7 + i) = ⟨(x.add (j * 7)).block, (x.add (j * 7)).off + i, none⟩ := fun j i hi => by rw [← addF]; unfold Addr.add; rw [if_neg (by omega)]
  refine ⟨x, e, hx, fun j hj => ⟨?_, ?_, ?_, ?_, ?_, ?_, ?_⟩⟩
  · exact (hc j hj 0 (by decide))
  · rw [← off j 1 (by decide)]; exact (hc j hj 1 (by decide))
  · rw [← off j 2 (by decide)]; exact (hc j hj 2 (by decide))
  · rw [← off j 3 (by decide)]; exact (hc j hj 3 (by decide))
  · rw [← off j 4 (by decide)]; exact (hc j hj 4 (by decide))
  · rw [← off j 5 (by decide)]; exact (hc j hj 5 (by decide))
  · rw [← off j 6 (by decide)]; exact (hc j hj 6 (by decide))
/-- Objects of the call's own. -/
abbrev OwnS (w : World) (base : Nat) (v : Value) (L : List Sp) : Prop := w.ownsRow base 69 7 v L.length (L.flatMap spC)
theorem flatS_len (L : List Sp) : (L.flatMap spC).length = L.length * 7 := by
  induction L with
  | nil => rfl
  | cons o l ih => rw [List.flatMap_cons, List.length_append, ih, spC_len, List.length_cons]; omega
theorem flatS_at (L : List Sp) : ∀ (i j : Nat), j < 7 → (L.flatMap spC)[i * 7 + j]? = (L.map spC)[i]?.bind (fun cs => cs[j]?) := by
  induction L with
  | nil => intro i j _; simp
  | cons o l ih =>
    intro i j hj
    rw [List.flatMap_cons, List.getElem?_append, spC_len]
    cases i with
    | zero =>
      rw [if_pos (by omega)]
      simp
    | succ i =>
      rw [if_neg (by omega), show (i + 1) * 7 + j - 7 = i * 7 + j by omega, ih i j hj]
      simp
theorem flatS_get {L : List Sp} {i : Nat} {cs : List Value} (h : (L.map spC)[i]? = some cs) {j : Nat} (hj : j < 7) : (L.flatMap spC)[i * 7 + j]? = cs[j]? := by
  rw [flatS_at L i j hj, h]; rfl
theorem own_slS {w : World} {base : Nat} {v : Value} {L : List Sp} (o : OwnS w base v L) : ∃ a cap, v = .slice a L.length cap ∧ SlS w a cap L ∧ Newer base a := by
  obtain ⟨_, ⟨h1, h2⟩ | ⟨g, cap, cur, h1, hg, hh, h3, h4, h5, h6⟩⟩ := id o
  · obtain rfl := List.eq_nil_of_length_eq_zero h2
    exact ⟨none, 0, h1, slS_nil w, fun x h => by cases h⟩
  · refine ⟨some ⟨g, 0, none⟩, cap, h1, ⟨⟨by simp; omega, .inr ⟨_, rfl, (Array.getElem?_eq_some_iff.1 hh).1, fun i cs hi j hj => ?_⟩⟩, h3, h4, (fun h => by cases h)⟩, fun x h => by cases h; exact hg⟩
    have e := flatS_get hi hj
    cases hv : cs[j]? with
    | none =>
      exfalso
      rw [List.getElem?_map] at hi
      cases hL : L[i]? with
      | none => rw [hL] at hi; cases hi
      | some q =>
        rw [hL] at hi
        simp at hi
        rw [← hi] at hv
        rw [List.getElem?_eq_getElem (by rw [spC_len]; exact hj)] at hv
        cases hv
    | some u =>
      rw [hv] at e
      exact o.cells (by rw [h1]; rfl) (i * 7 + j) u e
theorem slS_news {w : World} {x : Addr} {cap : Nat} {M : List Sp} (h : SlS w (some x) cap M) : ∀ j u, (M.flatMap spC)[j]? = some u → w.cell? (x.add j) = some u := by
  intro j u hu
  have hj : j < M.length * 7 := by
    rw [← flatS_len]
    by_cases q : j < (M.flatMap spC).length
    · exact q
    · rw [List.getElem?_eq_none (by omega)] at hu; cases hu
  have ej : j / 7 * 7 + j % 7 = j := by omega
  rcases h.row.2 with q | ⟨y, e, hx, hc⟩
  · rw [List.map_eq_nil_iff] at q
    rw [q] at hu; simp at hu
  · obtain rfl : x = y := Option.some.inj e
    have hi : (M.map spC)[j / 7]? = some (spC (M[j / 7]'(by omega))) := by rw [List.getElem?_map, List.getElem?_eq_getElem (by omega)]; rfl
    have a := hc (j / 7) _ hi (j % 7) (by omega)
    have b := flatS_get hi (j := j % 7) (by omega)
    rw [ej] at a b
    rw [a, ← b]
    exact hu
theorem info18 : (Try.prog.info? 69).map (fun i => (i.zero, i.size, i.bytes)) = some (some (.agg #[.int .u8 0, .int .u8 0, .int .u8 0, .int .u8 0, .int .u8 0, .int .u8 0, .int .u8 0]), 7, 7) := by kernel_rfl
/-- append(s, x...), s the call's own, x whatever objects. -/
theorem wl_appendS {w : World} {ops : Array Oper} {rest : List Oper} {o : Oper} {a : Act} {Q : Exit → Act → World → Prop} {s x : Operand} {base : Nat} {v : Value} {L : List Sp} {ax : Option Addr} {cap lz : Nat} {M : List Sp}
    (own : OwnS w base v L) (sl : SlS w ax cap M) (hgd : o.guard = none) (ho : o.op = .call { callee := .builtin .append, args := #[s, x], argTypes := #[49, 49] })
    (hs : a.eval s = v) (hx : a.eval x = .slice ax lz cap) (hlz : lz = M.length) (hb : base ≤ w.heap.size) (hm : L.length + M.length ≤ 1000000)
    (h : ∀ v' u, OwnS u base v' (L ++ M) → w.grownBy u v.ownBlock → wpList Try.prog ops Q rest (a.put o.dst v') u) : wpList Try.prog ops Q (o :: rest) a w := by
  obtain ⟨i0, hi, hz0, hz1, hz2⟩ := info_parts info18
  subst hlz
  cases ax with
  | none =>
    obtain rfl : cap = 0 := sl.nil rfl
    have z0 := sl.len
    obtain rfl : M = [] := List.eq_nil_of_length_eq_zero (by omega)
    refine wpList_append_own_none hgd s x 49 ho base 69 i0 7 Try.underlying49 hi v _ _ hs own hx ?_
    refine h v w (by rw [List.append_nil]; exact own) ⟨rfl, rfl, rfl, Nat.le_refl _, fun _ _ _ => rfl⟩
  | some y =>
    refine wpList_append_own _ hgd s x 49 ho base 69 i0 _ 7 7 Try.underlying49 hi hz0 hz1 hz2 rfl (by decide) v _ _ hs own y M.length cap (M.flatMap spC) hx (flatS_len M) (slS_news sl) ?_ ?_ ?_ hb ?_
    · intro u hu
      obtain ⟨q, _, hq⟩ := List.mem_flatMap.1 hu
      exact spC_one q u hq
    · unfold maxLen; omega
    · omega
    · intro v' u h1 h2 _
      refine h v' u ?_ h2
      show u.ownsRow base _ 7 v' (L ++ M).length ((L ++ M).flatMap spC)
      rw [List.length_append, List.flatMap_append]
      exact h1
theorem ownS_nil (w : World) (base : Nat) : OwnS w base (.slice none 0 0) [] := World.ownsRow_nil _ _ _ _
theorem one_slS (w : World) (o : Sp) : SlS (w.alloc (.cells (spC o).toArray 69)) (some ⟨w.heap.size, 0, none⟩) 1 [o] := by
  refine ⟨⟨by simp [maxLen], .inr ⟨_, rfl, by simp, fun i cs hi j hj => ?_⟩⟩, by simp, by simp [maxLen], fun e => by cases e⟩
  cases i with
  | zero =>
    simp at hi
    subst hi
    rw [Nat.zero_mul, Nat.zero_add, ownB_add, cell_of_row _ w.heap.size j (spC o).toArray 69 (0, 0) (heap_alloc_new w _)]
    simp
  | succ i => simp at hi
end Go.Proofs.Ytecgpdjgbdobbab
