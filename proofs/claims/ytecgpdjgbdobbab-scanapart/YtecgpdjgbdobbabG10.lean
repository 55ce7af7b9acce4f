/- Blocks of one's own, whole: loads and stores of structs within them, by the list of their cells. -/
import Derived.Test.YtecgpdjgbdobbabG09
import Derived.Deep.MidRow
namespace Go.Proofs.Ytecgpdjgbdobbab
open Go.RowKit
set_option linter.unusedVariables false
set_option linter.unusedSimpArgs false

def Blk (w : World) (b : Nat) (t : TypeId) (cs : List Value) : Prop := w.heap[b]? = some (.cells cs.toArray t (0, 0))
theorem blk_lt {w : World} {b : Nat} {t : TypeId} {cs : List Value} (h : Blk w b t cs) : b < w.heap.size := (Array.getElem?_eq_some_iff.1 h).1
theorem blk_new (w : World) (cs : List Value) (t : TypeId) : Blk (w.alloc (.cells cs.toArray t)) w.heap.size t cs := heap_alloc_new w _
theorem blk_kept {W u : World} (k : Kept W u) {b : Nat} {t : TypeId} {cs : List Value} (h : Blk W b t cs) : Blk u b t cs := (k.block b (blk_lt h)).trans h
theorem blk_past {w : World} {b : Nat} {t : TypeId} {cs : List Value} (h : Blk w b t cs) (o : Obj) : Blk (w.alloc o) b t cs := blk_kept ((Kept.refl w).alloc o) h
theorem blkX {F : Nat → Prop} {W u : World} (k : KeptX F W u) {b : Nat} {t : TypeId} {cs : List Value} (h : Blk W b t cs) (hf : ¬ F b) : Blk u b t cs := (k.block b (blk_lt h) hf).trans h
theorem blk_drew {w : World} {b : Nat} {t : TypeId} {cs : List Value} (h : Blk w b t cs) : Blk w.drew b t cs := h
theorem blk_drewN {w : World} {b : Nat} {t : TypeId} {cs : List Value} (h : Blk w b t cs) {n : Nat} : Blk (w.drewN n) b t cs := h
theorem blk_cell {w : World} {b : Nat} {t : TypeId} {cs : List Value} (h : Blk w b t cs) (i : Nat) : w.cell? ⟨b, i, none⟩ = cs[i]? := by
  rw [cell_of_row w b i cs.toArray t (0, 0) h]; simp
theorem blk_froz {w : World} {b : Nat} {t : TypeId} {cs : List Value} (h : Blk w b t cs) (i : Nat) : w.frozen? ⟨b, i, none⟩ = false := frozen_of_row w b i cs.toArray t h
theorem blk_has {w : World} {b : Nat} {t : TypeId} {cs : List Value} (h : Blk w b t cs) : Has w b cs.toArray := ⟨blk_lt h, fun i => by rw [blk_cell h i]; simp⟩
theorem blk_range {w : World} {b : Nat} {t : TypeId} {cs : List Value} (h : Blk w b t cs) (o n : Nat) : w.rangeAt b o ((cs.drop o).take n) := fun j v hv => by
  rw [blk_cell h, ← hv, List.getElem?_take]
  split
  · rw [List.getElem?_drop]
  · rename_i q; rw [List.getElem?_take, if_neg q] at hv; cases hv
theorem blk_there {w : World} {b : Nat} {t : TypeId} {cs : List Value} (h : Blk w b t cs) {o n : Nat} (hn : o + n ≤ cs.length) : w.there b o n := fun j hj =>
  ⟨by rw [blk_cell h, List.getElem?_eq_getElem (by omega)]; rfl, blk_froz h _⟩
theorem blk_setCells_same {b : Nat} {t : TypeId} : ∀ (vs : List Value) (o : Nat) (w : World) (cs : List Value), Blk w b t cs → o + vs.length ≤ cs.length → Blk (w.setCells b o vs) b t (cs.take o ++ vs ++ cs.drop (o + vs.length))
  | [], o, w, cs, h, _ => by simpa [World.setCells] using h
  | v :: r, o, w, cs, h, hl => by
    rw [List.length_cons] at hl
    have h1 : Blk (w.setCell ⟨b, o, none⟩ v) b t (cs.set o v) := by
      have := heap_setCell_same w b o cs.toArray t v h
      unfold Blk
      rw [this]
      simp
    have h2 := blk_setCells_same r (o + 1) (w.setCell ⟨b, o, none⟩ v) (cs.set o v) h1 (by rw [List.length_set]; omega)
    have e : (cs.set o v).take (o + 1) ++ r ++ (cs.set o v).drop (o + 1 + r.length) = cs.take o ++ (v :: r) ++ cs.drop (o + (v :: r).length) := by
      rw [List.take_set, List.drop_set_of_lt (by omega), List.set_eq_take_append_cons_drop, if_pos (by rw [List.length_take]; omega), List.take_take, List.drop_take]
      simp [Nat.min_eq_left (Nat.le_succ o), Nat.add_assoc, Nat.add_comm 1]
    rw [e] at h2
    exact h2
theorem blk_setCells_other {b b2 : Nat} {t : TypeId} {cs : List Value} (hne : b2 ≠ b) : ∀ (vs : List Value) (o : Nat) (w : World), Blk w b2 t cs → Blk (w.setCells b o vs) b2 t cs
  | [], _, _, h => h
  | v :: r, o, w, h => blk_setCells_other hne r (o + 1) _ ((heap_setCell_other w ⟨b, o, none⟩ b2 v hne).trans h)
theorem size_setCells (b : Nat) : ∀ (vs : List Value) (o : Nat) (w : World), (w.setCells b o vs).heap.size = w.heap.size
  | [], _, _ => rfl
  | v :: r, o, w => by rw [World.setCells, size_setCells b r (o + 1)]; simp
theorem KeptX.setCells {F : Nat → Prop} {W : World} {b : Nat} (hb : F b ∨ W.heap.size ≤ b) : ∀ (vs : List Value) (o : Nat) (w : World), KeptX F W w → KeptX F W (w.setCells b o vs)
  | [], _, _, h => h
  | v :: r, o, w, h => KeptX.setCells hb r (o + 1) _ (h.setCell hb o v)
theorem Kept.setCells {W : World} {b : Nat} (hb : W.heap.size ≤ b) : ∀ (vs : List Value) (o : Nat) (w : World), Kept W w → Kept W (w.setCells b o vs)
  | [], _, _, h => h
  | v :: r, o, w, h => Kept.setCells hb r (o + 1) _ (h.setCell8 hb o v)
/-- A world in which a block's cells from o on are vs, and all else is as it was. -/
structure Put (w : World) (b : Nat) (t : TypeId) (cs : List Value) (u : World) : Prop where
  blk : Blk u b t cs
  other : ∀ b2 t2 cs2, b2 ≠ b → Blk w b2 t2 cs2 → Blk u b2 t2 cs2
  kept : ∀ W, Kept W w → W.heap.size ≤ b → Kept W u
  keptX : ∀ F W, KeptX F W w → (F b ∨ W.heap.size ≤ b) → KeptX F W u
  size : u.heap.size = w.heap.size
  row : ∀ a zs, Row w a zs → (∀ x, a = some x → x.block ≠ b) → Row u a zs
theorem put_of {w : World} {b : Nat} {t : TypeId} {cs : List Value} (h : Blk w b t cs) (o : Nat) (vs : List Value) (hl : o + vs.length ≤ cs.length) : Put w b t (cs.take o ++ vs ++ cs.drop (o + vs.length)) (w.setCells b o vs) :=
  ⟨blk_setCells_same vs o w cs h hl, fun b2 t2 cs2 hne h2 => blk_setCells_other hne vs o w h2, fun W k hb => Kept.setCells hb vs o w k, fun F W k hb => KeptX.setCells hb vs o w k, size_setCells b vs o w,
   fun a zs r hne => rowX (F := fun k => k = b) (KeptX.setCells (F := fun k => k = b) (.inl rfl) vs o w (KeptX.refl w)) r (.inr fun x hx e => hne x hx e)⟩
section
variable {P : Program}
theorem run_storeVar_any (w : World) (b o : Nat) (ty : TypeId) (v : Value) (ht : w.there b o v.cells.size) (hi : (P.info? ty).map (·.size) = some v.cells.size) (h1 : v.cells.all (·.oneCell') = true) :
    (storeVar ty ⟨b, o, none⟩ v).run P w = .ok () (w.setCells b o v.cells.toList) := by
  have := run_storeCells_cells (P := P) b o v.cells.toList 0 w (fun j hj => by simpa using (ht j (by simpa using hj)).1) (fun j hj => by simpa using (ht j (by simpa using hj)).2)
    (fun v hv => (Array.all_eq_true_iff_forall_mem.1 h1) v (by simpa using hv))
  cases hq : P.info? ty with
  | none => simp [hq] at hi
  | some i =>
    have hs : v.cells.size = i.size := by simp [hq] at hi; omega
    simp only [Nat.add_zero] at this
    simp [storeVar, sizeOf, typeInfo, hq, hs, this]
theorem at_st (ty : TypeId) {ops : Array Oper} {rest : List Oper} {a : Act} {w : World} {Q : Exit → Act → World → Prop} {d : Option Tmp} {x y : Operand} {t : TypeId} {ps : String} {af : Array Edge}
    (h : wpList P ops Q (⟨d, .store ty x y, t, ps, af, none⟩ :: rest) a w) : wpList P ops Q (⟨d, .store ty x y, t, ps, af, none⟩ :: rest) a w := h
theorem at_ld (ty : TypeId) {ops : Array Oper} {rest : List Oper} {a : Act} {w : World} {Q : Exit → Act → World → Prop} {d : Option Tmp} {x : Operand} {t : TypeId} {ps : String} {af : Array Edge}
    (h : wpList P ops Q (⟨d, .load ty x, t, ps, af, none⟩ :: rest) a w) : wpList P ops Q (⟨d, .load ty x, t, ps, af, none⟩ :: rest) a w := h
theorem wl_store {ops : Array Oper} {rest : List Oper} {op : Oper} {a : Act} {w : World} {Q : Exit → Act → World → Prop} {ty : TypeId} {x y : Operand} {b o : Nat} {v : Value} {t : TypeId} {cs : List Value}
    (hgd : op.guard = none) (ho : op.op = .store ty x y) (hx : a.eval x = .pointer (some ⟨b, o, none⟩)) (hy : a.eval y = v) (hB : Blk w b t cs)
    (hi : (P.info? ty).map (·.size) = some v.cells.size) (h1 : v.cells.toList.all (·.oneCell') = true) (hl : o + v.cells.toList.length ≤ cs.length)
    (h : ∀ u, Put w b t (cs.take o ++ v.cells.toList ++ cs.drop (o + v.cells.toList.length)) u → wpList P ops Q rest (a.put op.dst undef) u) : wpList P ops Q (op :: rest) a w :=
  wpList_plain hgd fun _ hK => by
    unfold Oper.wp execOp
    simp only [ho, hx, hy, Instr.storeAt, Instr.sureAddr, Sem.run_bind, Sem.run_pure, Result.andThen_ok, run_storeVar_any w b o ty v (blk_there hB (by simpa using hl)) hi (Array.all_eq_true_iff_forall_mem.2 (fun x hx => List.all_eq_true.1 h1 x (by simpa using hx)))]
    exact hK _ _ (h _ (put_of hB o v.cells.toList hl))
theorem store_run {w : World} {b : Nat} {t : TypeId} {cs : List Value} (hB : Blk w b t cs) (ty : TypeId) (o : Nat) (v : Value) (hi : (P.info? ty).map (·.size) = some v.cells.size) (h1 : v.cells.toList.all (·.oneCell') = true) (hl : o + v.cells.toList.length ≤ cs.length) :
    ∃ u, (Instr.storeAt ty (.pointer (some ⟨b, o, none⟩)) v).run P w = .ok () u ∧ Put w b t (cs.take o ++ v.cells.toList ++ cs.drop (o + v.cells.toList.length)) u :=
  ⟨_, by simp only [Instr.storeAt, Instr.sureAddr, Sem.run_bind, Sem.run_pure, Result.andThen_ok, run_storeVar_any w b o ty v (blk_there hB (by simpa using hl)) hi (Array.all_eq_true_iff_forall_mem.2 (fun x hx => List.all_eq_true.1 h1 x (by simpa using hx)))], put_of hB o v.cells.toList hl⟩
theorem wl_load {ops : Array Oper} {rest : List Oper} {op : Oper} {a : Act} {w : World} {Q : Exit → Act → World → Prop} {ty : TypeId} {x : Operand} {b o : Nat} {t : TypeId} {cs : List Value} {d : TypeDesc} (n : Nat)
    (hgd : op.guard = none) (ho : op.op = .load ty x) (hx : a.eval x = .pointer (some ⟨b, o, none⟩)) (hB : Blk w b t cs)
    (hu : P.underlying ty = some d) (hd : d.isRow = true) (hi : (P.info? ty).map (·.size) = some n) (hl : o + n ≤ cs.length)
    (h : wpList P ops Q rest (a.put op.dst (.agg ((cs.drop o).take n).toArray)) w) : wpList P ops Q (op :: rest) a w :=
  wpList_load_mid hgd ty x ho b o hx _ d (blk_range hB o n) hu hd (by rw [hi, List.length_take, List.length_drop]; congr 1; omega) h
theorem wl_load0 {ops : Array Oper} {rest : List Oper} {op : Oper} {a : Act} {w : World} {Q : Exit → Act → World → Prop} {ty : TypeId} {x : Operand} {b : Nat} {t : TypeId} {cs : List Value} {d : TypeDesc}
    (hgd : op.guard = none) (ho : op.op = .load ty x) (hx : a.eval x = .pointer (some ⟨b, 0, none⟩)) (hB : Blk w b t cs)
    (hu : P.underlying ty = some d) (hd : d.isRow = true) (hi : (P.info? ty).map (·.size) = some cs.length)
    (h : wpList P ops Q rest (a.put op.dst (.agg cs.toArray)) w) : wpList P ops Q (op :: rest) a w :=
  wpList_load_mid hgd ty x ho b 0 hx _ d (fun j v hv => by rw [blk_cell hB, Nat.zero_add]; exact hv) hu hd hi h
theorem run_var_blk {w : World} {b : Nat} {ty t : TypeId} {cs : List Value} {d : TypeDesc} (hB : Blk w b t cs) (hu : P.underlying ty = some d) (hd : d.isRow = true) (hi : (P.info? ty).map (·.size) = some cs.length) :
    (loadVar ty ⟨b, 0, none⟩).run P w = .ok (.agg cs.toArray) w := by
  have := run_loadVar_mid (P := P) w b 0 ty cs d (fun j v hv => by rw [blk_cell hB, Nat.zero_add]; exact hv) hu hd hi
  exact this
theorem res_cell {fn : Func} {p : Tmp} {ty t : TypeId} {cs : List Value} {d : TypeDesc} (h : fn.results = #[.cell p ty]) {tmps : Array Value} {w : World} {b : Nat} (hp : tmps.getD p undef = .pointer (some ⟨b, 0, none⟩)) (hB : Blk w b t cs)
    (hu : P.underlying ty = some d) (hd : d.isRow = true) (hi : (P.info? ty).map (·.size) = some cs.length) : (results fn tmps).run P w = .ok (.agg cs.toArray) w := by
  have hp' : tmps[p]?.getD undef = .pointer (some ⟨b, 0, none⟩) := by simpa using hp
  simp [results, h, hp', asAddr, run_var_blk hB hu hd hi]
theorem res_cell2 {fn : Func} {p q : Tmp} {ty t : TypeId} {cs : List Value} {d : TypeDesc} (h : fn.results = #[.cell p ty, .tmp q]) {tmps : Array Value} {w : World} {b : Nat} (hp : tmps.getD p undef = .pointer (some ⟨b, 0, none⟩)) (hB : Blk w b t cs)
    (hu : P.underlying ty = some d) (hd : d.isRow = true) (hi : (P.info? ty).map (·.size) = some cs.length) : (results fn tmps).run P w = .ok (.tuple #[.agg cs.toArray, tmps.getD q undef]) w := by
  have hp' : tmps[p]?.getD undef = .pointer (some ⟨b, 0, none⟩) := by simpa using hp
  simp [results, h, hp', asAddr, run_var_blk hB hu hd hi]
end
end Go.Proofs.Ytecgpdjgbdobbab
