/- The document's memories: New. -/
import Derived.Test.YtfndpikcodjajaaDoorRb20b
namespace Go.Proofs.YtfndpikcodjajaaDoor
open Go.RowKit
set_option linter.unusedVariables false
set_option linter.unusedSimpArgs false

theorem hp_new (w : World) (o : Obj) : (w.alloc o).heap[w.heap.size]? = some o := heap_alloc_new w o
theorem hp_old (w : World) (o : Obj) (k : Nat) (x : Obj) (h : w.heap[k]? = some x) : (w.alloc o).heap[k]? = some x := (Below.heap_alloc w o k (Array.getElem?_eq_some_iff.1 h).1).trans h
section
variable (w : World) (c o1 o2 o3 o4 : Obj)
theorem hp0 : (((((w.alloc c).alloc o1).alloc o2).alloc o3).alloc o4).drew.heap[w.heap.size]? = some c := hp_old _ _ _ _ (hp_old _ _ _ _ (hp_old _ _ _ _ (hp_old _ _ _ _ (hp_new w c))))
theorem hp1 : (((((w.alloc c).alloc o1).alloc o2).alloc o3).alloc o4).drew.heap[w.heap.size + 1]? = some o1 := hp_old _ _ _ _ (hp_old _ _ _ _ (hp_old _ _ _ _ (by have h := hp_new (w.alloc c) o1; rw [World.size_alloc] at h; exact h)))
theorem hp2 : (((((w.alloc c).alloc o1).alloc o2).alloc o3).alloc o4).drew.heap[w.heap.size + 1 + 1]? = some o2 := hp_old _ _ _ _ (hp_old _ _ _ _ (by have h := hp_new ((w.alloc c).alloc o1) o2; rw [World.size_alloc, World.size_alloc] at h; exact h))
theorem hp3 : (((((w.alloc c).alloc o1).alloc o2).alloc o3).alloc o4).drew.heap[w.heap.size + 1 + 1 + 1]? = some o3 := hp_old _ _ _ _ (by have h := hp_new (((w.alloc c).alloc o1).alloc o2) o3; rw [World.size_alloc, World.size_alloc, World.size_alloc] at h; exact h)
theorem hp4 : (((((w.alloc c).alloc o1).alloc o2).alloc o3).alloc o4).drew.heap[w.heap.size + 1 + 1 + 1 + 1]? = some o4 := by have h := hp_new ((((w.alloc c).alloc o1).alloc o2).alloc o3) o4; rw [World.size_alloc, World.size_alloc, World.size_alloc, World.size_alloc] at h; exact h
end
theorem sl_zero {W : World} {b N : Nat} (h : W.heap[b]? = some (.cells ((List.replicate N (0 : Int)).map (Value.int .u8)).toArray 5 (0, 0))) (hN : N ≤ 8192) : Sl W (some ⟨b, 0, none⟩) N (List.replicate N 0) := by
  have q : BB20 W b (List.replicate N 0) := h
  exact ⟨bb_row20 q (fun x hx => by rw [(List.mem_replicate.1 hx).2]; exact ⟨by decide, by decide⟩) (by rw [List.length_replicate]; unfold maxLen; omega), by rw [List.length_replicate]; exact Nat.le_refl _, by unfold maxLen; omega, fun e => by cases e⟩
theorem sg_zero (o n : Nat) (h : o + n ≤ 16671) : sg M0 o n = List.replicate n 0 := by
  unfold sg M0
  rw [List.drop_replicate, List.take_replicate]
  congr 1
  omega
theorem rn_fin (w W : World) (pv pw po ph : Nat) (k : Kept w W)
    (hv : W.heap[pv]? = some (.cells ((List.replicate 8192 (0 : Int)).map (Value.int .u8)).toArray 5 (0, 0))) (hw : W.heap[pw]? = some (.cells ((List.replicate 8192 (0 : Int)).map (Value.int .u8)).toArray 5 (0, 0)))
    (ho : W.heap[po]? = some (.cells ((List.replicate 160 (0 : Int)).map (Value.int .u8)).toArray 5 (0, 0))) (hh : W.heap[ph]? = some (.cells ((List.replicate 127 (0 : Int)).map (Value.int .u8)).toArray 5 (0, 0)))
    (n : w.heap.size < pv ∧ w.heap.size < pw ∧ w.heap.size < po ∧ w.heap.size < ph) :
    ∃ m, Ending.returned (.agg #[.slice (some ⟨pv, 0, none⟩) 8192 8192, .slice (some ⟨pw, 0, none⟩) 8192 8192, .slice (some ⟨po, 0, none⟩) 160 160, .slice (some ⟨ph, 0, none⟩) 127 127]) = .returned (rmV m) ∧ RmIn W m M0 ∧ (∀ F : Nat → Prop, (∀ k, F k → k < w.heap.size) → RmOff F m) ∧ Kept w W := by
  refine ⟨⟨some ⟨pv, 0, none⟩, 8192, some ⟨pw, 0, none⟩, 8192, some ⟨po, 0, none⟩, 160, some ⟨ph, 0, none⟩, 127⟩, rfl, ⟨?_, ?_, ?_, ?_, M0_len, M0_in⟩, fun F f => ⟨fun x hx q => ?_, fun x hx q => ?_, fun x hx q => ?_, fun x hx q => ?_⟩, k⟩
  · rw [sg_zero _ _ (by decide)]; exact sl_zero (N := 8192) hv (by decide)
  · rw [sg_zero _ _ (by decide)]; exact sl_zero (N := 8192) hw (by decide)
  · rw [sg_zero _ _ (by decide)]; exact sl_zero (N := 160) ho (by decide)
  · rw [sg_zero _ _ (by decide)]; exact sl_zero (N := 127) hh (by decide)
  all_goals
    cases hx
    have := f _ q
    simp only at this
    omega
set_option maxRecDepth 100000 in
set_option maxHeartbeats 4000000 in
theorem rnew20 (w : World) : Calls Tryd.prog 19 #[] w fun e w' => ∃ m, e = .returned (rmV m) ∧ RmIn w' m M0 ∧ (∀ F : Nat → Prop, (∀ k, F k → k < w.heap.size) → RmOff F m) ∧ Kept w w' := by
  obtain ⟨Z, hZ⟩ : ∃ Z, ((List.replicate 8192 (0 : Int)).map (Value.int .u8)).toArray = Z := ⟨_, rfl⟩
  obtain ⟨Y, hY⟩ : ∃ Z, ((List.replicate 160 (0 : Int)).map (Value.int .u8)).toArray = Z := ⟨_, rfl⟩
  obtain ⟨X, hX⟩ : ∃ Z, ((List.replicate 127 (0 : Int)).map (Value.int .u8)).toArray = Z := ⟨_, rfl⟩
  have MZ : ∀ u : World, (Instr.makeSlice 33 (.int .i64 8192) (.int .i64 8192)).run Tryd.prog u = .ok (.slice (some ⟨u.heap.size, 0, none⟩) 8192 8192) (u.alloc (.cells Z 5)) := fun u => by rw [← hZ]; exact make20 8192 (by decide) u
  have MY : ∀ u : World, (Instr.makeSlice 33 (.int .i64 160) (.int .i64 160)).run Tryd.prog u = .ok (.slice (some ⟨u.heap.size, 0, none⟩) 160 160) (u.alloc (.cells Y 5)) := fun u => by rw [← hY]; exact make20 160 (by decide) u
  have MX : ∀ u : World, (Instr.makeSlice 33 (.int .i64 127) (.int .i64 127)).run Tryd.prog u = .ok (.slice (some ⟨u.heap.size, 0, none⟩) 127 127) (u.alloc (.cells X 5)) := fun u => by rw [← hX]; exact make20 127 (by decide) u
  have RF := rn_fin w
  rw [hX, hY, hZ] at RF
  have RF := hid RF
  clear hX hY hZ
  go_enter Tryd.func19, Tryd.ntmps19
  go_wp2_with fail
  go_region
  all_goals
    go_wp2
    refine bodyPost_ret (res_cell Tryd.results19 rfl (cs := [_, _, _, _]) (hp0 _ _ _ _ _ _) Tryd.underlying35 rfl (by kernel_rfl)) rfl ?_
    refine RF.out _ _ _ _ _ (((((Kept.refl w).alloc _).alloc _).alloc _).alloc _ |>.alloc _ |>.drew) ?_ ?_ ?_ ?_ ⟨by omega, by omega, by omega, by omega⟩
    all_goals first | exact hp1 _ _ _ _ _ _ | exact hp2 _ _ _ _ _ _ | exact hp3 _ _ _ _ _ _ | exact hp4 _ _ _ _ _ _
end Go.Proofs.YtfndpikcodjajaaDoor
