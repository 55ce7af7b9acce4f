/- Slices of cycles: those that come in, and those of the call's own; slices of such slices. -/
import Derived.Test.YtbflhpffojlpgaaDoorMi21
import Derived.Test.YtbflhpffojlpgaaDoorFlats
import Derived.Test.YtbflhpffojlpgaaDoorAp10
namespace Go.Proofs.YtbflhpffojlpgaaDoor
open Go.RowKit
set_option linter.unusedVariables false
set_option linter.unusedSimpArgs false

def mcC (m : Mc) : List Value := [.int .i64 m.1, .int .i64 m.2.1, .int .i64 m.2.2]
theorem mcC_len (o : Mc) : (mcC o).length = 3 := rfl
theorem mcC_one (o : Mc) : ∀ v ∈ mcC o, v.oneCell' = true := by
  intro v hv
  simp [mcC] at hv
  rcases hv with rfl | rfl | rfl <;> rfl
/-- A slice of objects: where they lie, their room, and they. -/
structure SlM (w : World) (a : Option Addr) (cap : Nat) (L : List Mc) : Prop where
  row : FRow w a 3 (L.map mcC)
  len : L.length ≤ cap
  max : cap ≤ maxLen
  nil : a = none → cap = 0
/-- An object lies at an address. -/
structure MAt (u : World) (y : Addr) (o : Mc) : Prop where
  c0 : u.cell? y = some (.int .i64 o.1)
  c1 : u.cell? ⟨y.block, y.off + 1, none⟩ = some (.int .i64 o.2.1)
  c2 : u.cell? ⟨y.block, y.off + 2, none⟩ = some (.int .i64 o.2.2)
theorem frowM_kept {W w : World} (k : Kept W w) {a : Option Addr} {c : Nat} {els : List (List Value)} (h : FRow W a c els) : FRow w a c els := by
  refine ⟨h.1, ?_⟩
  rcases h.2 with h | ⟨x, e, hx, hc⟩
  · exact .inl h
  · exact .inr ⟨x, e, Nat.lt_of_lt_of_le hx k.size, fun i cs hi j hj => (k.cell (x := x.add (i * c + j)) (by rw [addFB]; exact hx)).trans (hc i cs hi j hj)⟩
theorem slM_kept {W w : World} (k : Kept W w) {a : Option Addr} {cap : Nat} {L : List Mc} (h : SlM W a cap L) : SlM w a cap L := ⟨frowM_kept k h.row, h.len, h.max, h.nil⟩
theorem slM_nil (w : World) : SlM w none 0 [] := ⟨⟨by simp, .inl rfl⟩, by simp, by simp, fun _ => rfl⟩
theorem mat_kept {W w : World} (k : Kept W w) {y : Addr} {o : Mc} (hy : y.block < W.heap.size) (h : MAt W y o) : MAt w y o :=
  ⟨(k.cell hy).trans h.c0, (k.cell (x := ⟨y.block, y.off + 1, none⟩) hy).trans h.c1, (k.cell (x := ⟨y.block, y.off + 2, none⟩) hy).trans h.c2⟩
theorem slM_at {w : World} {a : Option Addr} {cap : Nat} {L : List Mc} (h : SlM w a cap L) (hl : 0 < L.length) : ∃ x : Addr, a = some x ∧ x.block < w.heap.size ∧ ∀ j, j < L.length → MAt w (x.add (j * 3)) (L.getD j default) := by
  obtain ⟨x, e, hx, hc⟩ := frow_getD (default : Mc) h.row hl
  have off : ∀ (j i : Nat), 0 < i → x.add (j * 3 + i) = ⟨(x.add (j * 3)).block, (x.add (j * 3)).off + i, none⟩ := fun j i hi => by rw [← addF]; unfold Addr.add; rw [if_neg (by omega)]
  refine ⟨x, e, hx, fun j hj => ⟨?_, ?_, ?_⟩⟩
  · exact (hc j hj 0 (by decide))
  · rw [← off j 1 (by decide)]; exact (hc j hj 1 (by decide))
  · rw [← off j 2 (by decide)]; exact (hc j hj 2 (by decide))
/-- Objects of the call's own. -/
abbrev OwnM (w : World) (base : Nat) (v : Value) (L : List Mc) : Prop := w.ownsRow base 32 3 v L.length (L.flatMap mcC)
theorem flatM_len (L : List Mc) : (L.flatMap mcC).length = L.length * 3 := by
  induction L with
  | nil => rfl
  | cons o l ih => rw [List.flatMap_cons, List.length_append, ih, mcC_len, List.length_cons]; omega
theorem flatM_at (L : List Mc) : ∀ (i j : Nat), j < 3 → (L.flatMap mcC)[i * 3 + j]? = (L.map mcC)[i]?.bind (fun cs => cs[j]?) := by
  induction L with
  | nil => intro i j _; simp
  | cons o l ih =>
    intro i j hj
    rw [List.flatMap_cons, List.getElem?_append, mcC_len]
    cases i with
    | zero =>
      rw [if_pos (by omega)]
      simp
    | succ i =>
      rw [if_neg (by omega), show (i + 1) * 3 + j - 3 = i * 3 + j by omega, ih i j hj]
      simp
theorem flatM_get {L : List Mc} {i : Nat} {cs : List Value} (h : (L.map mcC)[i]? = some cs) {j : Nat} (hj : j < 3) : (L.flatMap mcC)[i * 3 + j]? = cs[j]? := by
  rw [flatM_at L i j hj, h]; rfl
theorem own_slM {w : World} {base : Nat} {v : Value} {L : List Mc} (o : OwnM w base v L) : ∃ a cap, v = .slice a L.length cap ∧ SlM w a cap L ∧ Newer base a := by
  obtain ⟨_, ⟨h1, h2⟩ | ⟨g, cap, cur, h1, hg, hh, h3, h4, h5, h6⟩⟩ := id o
  · obtain rfl := List.eq_nil_of_length_eq_zero h2
    exact ⟨none, 0, h1, slM_nil w, fun x h => by cases h⟩
  · refine ⟨some ⟨g, 0, none⟩, cap, h1, ⟨⟨by simp; omega, .inr ⟨_, rfl, (Array.getElem?_eq_some_iff.1 hh).1, fun i cs hi j hj => ?_⟩⟩, h3, h4, (fun h => by cases h)⟩, fun x h => by cases h; exact hg⟩
    have e := flatM_get hi hj
    cases hv : cs[j]? with
    | none =>
      exfalso
      rw [List.getElem?_map] at hi
      cases hL : L[i]? with
      | none => rw [hL] at hi; cases hi
      | some q =>
        rw [hL] at hi
        simp at hi
        rw [← hi] at hv
        rw [List.getElem?_eq_getElem (by rw [mcC_len]; exact hj)] at hv
        cases hv
    | some u =>
      rw [hv] at e
      exact o.cells (by rw [h1]; rfl) (i * 3 + j) u e
theorem slM_news {w : World} {x : Addr} {cap : Nat} {M : List Mc} (h : SlM w (some x) cap M) : ∀ j u, (M.flatMap mcC)[j]? = some u → w.cell? (x.add j) = some u := by
  intro j u hu
  have hj : j < M.length * 3 := by
    rw [← flatM_len]
    by_cases q : j < (M.flatMap mcC).length
    · exact q
    · rw [List.getElem?_eq_none (by omega)] at hu; cases hu
  have ej : j / 3 * 3 + j % 3 = j := by omega
  rcases h.row.2 with q | ⟨y, e, hx, hc⟩
  · rw [List.map_eq_nil_iff] at q
    rw [q] at hu; simp at hu
  · obtain rfl : x = y := Option.some.inj e
    have hi : (M.map mcC)[j / 3]? = some (mcC (M[j / 3]'(by omega))) := by rw [List.getElem?_map, List.getElem?_eq_getElem (by omega)]; rfl
    have a := hc (j / 3) _ hi (j % 3) (by omega)
    have b := flatM_get hi (j := j % 3) (by omega)
    rw [ej] at a b
    rw [a, ← b]
    exact hu
theorem info21 : (Tryd.prog.info? 32).map (fun i => (i.zero, i.size, i.bytes)) = some (some (.agg #[.int .i64 0, .int .i64 0, .int .i64 0]), 3, 24) := by kernel_rfl
/-- append(s, x...), s the call's own, x whatever objects. -/
theorem wl_appendM {w : World} {ops : Array Oper} {rest : List Oper} {o : Oper} {a : Act} {Q : Exit → Act → World → Prop} {s x : Operand} {base : Nat} {v : Value} {L : List Mc} {ax : Option Addr} {cap lz : Nat} {M : List Mc}
    (own : OwnM w base v L) (sl : SlM w ax cap M) (hgd : o.guard = none) (ho : o.op = .call { callee := .builtin .append, args := #[s, x], argTypes := #[24, 24] })
    (hs : a.eval s = v) (hx : a.eval x = .slice ax lz cap) (hlz : lz = M.length) (hb : base ≤ w.heap.size) (hm : L.length + M.length ≤ 1000000)
    (h : ∀ v' u, OwnM u base v' (L ++ M) → w.grownBy u v.ownBlock → wpList Tryd.prog ops Q rest (a.put o.dst v') u) : wpList Tryd.prog ops Q (o :: rest) a w := by
  obtain ⟨i0, hi, hz0, hz1, hz2⟩ := info_parts info21
  subst hlz
  cases ax with
  | none =>
    obtain rfl : cap = 0 := sl.nil rfl
    have z0 := sl.len
    obtain rfl : M = [] := List.eq_nil_of_length_eq_zero (by omega)
    refine wpList_append_own_none hgd s x 24 ho base 32 i0 3 Tryd.underlying24 hi v _ _ hs own hx ?_
    refine h v w (by rw [List.append_nil]; exact own) ⟨rfl, rfl, rfl, Nat.le_refl _, fun _ _ _ => rfl⟩
  | some y =>
    refine wpList_append_own _ hgd s x 24 ho base 32 i0 _ 3 24 Tryd.underlying24 hi hz0 hz1 hz2 rfl (by decide) v _ _ hs own y M.length cap (M.flatMap mcC) hx (flatM_len M) (slM_news sl) ?_ ?_ ?_ hb ?_
    · intro u hu
      obtain ⟨q, _, hq⟩ := List.mem_flatMap.1 hu
      exact mcC_one q u hq
    · unfold maxLen; omega
    · omega
    · intro v' u h1 h2 _
      refine h v' u ?_ h2
      show u.ownsRow base _ 3 v' (L ++ M).length ((L ++ M).flatMap mcC)
      rw [List.length_append, List.flatMap_append]
      exact h1
theorem ownM_empty (w : World) {base : Nat} (hb : base ≤ w.heap.size) : OwnM (w.alloc (.cells #[] 32)) base (.slice (some ⟨w.heap.size, 0, none⟩) ([] : List Mc).length 0) [] :=
  World.ownsRow_made w #[] 0 hb (by decide) rfl
theorem ownM_nil (w : World) (base : Nat) : OwnM w base (.slice none 0 0) [] := World.ownsRow_nil _ _ _ _
theorem one_slM (w : World) (o : Mc) : SlM (w.alloc (.cells (mcC o).toArray 32)) (some ⟨w.heap.size, 0, none⟩) 1 [o] := by
  refine ⟨⟨by simp [maxLen], .inr ⟨_, rfl, by simp, fun i cs hi j hj => ?_⟩⟩, by simp, by simp [maxLen], fun e => by cases e⟩
  cases i with
  | zero =>
    simp at hi
    subst hi
    rw [Nat.zero_mul, Nat.zero_add, ownB_add, cell_of_row _ w.heap.size j (mcC o).toArray 32 (0, 0) (heap_alloc_new w _)]
    simp
  | succ i => simp at hi
/-- A slice of cycles among others: where it lies, its room, the cycles. -/
abbrev Ms : Type := Option Addr × Nat × List Mc
def msV (p : Ms) : Value := .slice p.1 p.2.2.length p.2.1
def SlMs (w : World) (p : Ms) : Prop := SlM w p.1 p.2.1 p.2.2
/-- A call that answers cycles, and keeps what was there. -/
def MRet (w : World) (L : List Mc) (e : Ending) (u : World) : Prop := ∃ a cap, e = .returned (.slice a L.length cap) ∧ SlM u a cap L ∧ Kept w u
def allOf (ps : List Ms) : List Mc := ps.flatMap (fun p => p.2.2)
theorem all_take (ps : List Ms) (j : Nat) (p : Ms) (h : ps[j]? = some p) : allOf (ps.take (j + 1)) = allOf (ps.take j) ++ p.2.2 := by
  obtain ⟨hj, e⟩ := List.getElem?_eq_some_iff.1 h
  rw [List.take_succ_eq_append_getElem hj, e]
  simp [allOf]
theorem all_len (ps : List Ms) (j : Nat) : (allOf (ps.take j)).length ≤ (allOf ps).length := by
  have : allOf ps = allOf (ps.take j) ++ allOf (ps.drop j) := by rw [allOf, allOf, allOf, ← List.flatMap_append, List.take_append_drop]
  rw [this, List.length_append]; omega
theorem ownM_form {w : World} {base : Nat} {v : Value} {L : List Mc} (o : OwnM w base v L) : ∃ a cap, v = .slice a L.length cap ∧ OwnM w base (.slice a L.length cap) L := by
  obtain ⟨a, cap, e, _⟩ := own_slM o
  exact ⟨a, cap, e, by rw [← e]; exact o⟩
end Go.Proofs.YtbflhpffojlpgaaDoor
