/- What the document's answers of layer 10 come to: New. -/
import Derived.Test.YtfmddnekooojkaaGreatDoorG32
import Derived.Test.YtfmddnekooojkaaGreatDoorG15
import Derived.Laws.OwnMore
namespace Go.Proofs.YtfmddnekooojkaaGreatDoor
open Go.RowKit
set_option linter.unusedVariables false
set_option linter.unusedSimpArgs false

theorem wp_st {P : Program} {op : Oper} {a : Act} {w : World} {K : Act → World → Prop} {Q : Exit → Act → World → Prop} {ty : TypeId} {x y : Operand} {b o : Nat} {v : Value} {t : TypeId} {cs : List Value}
    (hB : Blk w b t cs) (ho : op.op = .store ty x y) (hx : a.eval x = .pointer (some ⟨b, o, none⟩)) (hy : a.eval y = v)
    (hi : (P.info? ty).map (·.size) = some v.cells.size) (h1 : v.cells.toList.all (·.oneCell') = true) (hl : o + v.cells.toList.length ≤ cs.length)
    (h : ∀ u, Put w b t (cs.take o ++ v.cells.toList ++ cs.drop (o + v.cells.toList.length)) u → K (a.put op.dst undef) u) : op.wp P a w K Q := by
  unfold Oper.wp execOp
  simp only [ho, hx, hy, Instr.storeAt, Instr.sureAddr, Sem.run_bind, Sem.run_pure, Result.andThen_ok, run_storeVar_any w b o ty v (blk_there hB (by simpa using hl)) hi (Array.all_eq_true_iff_forall_mem.2 (fun x hx => List.all_eq_true.1 h1 x (by simpa using hx)))]
  exact h _ (put_of hB o v.cells.toList hl)
set_option maxRecDepth 100000 in
theorem size_pos (z : List Int) : 0 ≤ (parseH z).size := by
  unfold parseH
  split
  · dsimp only
    split
    · unfold sizeM
      generalize z.getD 329 0 = y
      by_cases q : y.toNat < 6
      · have f : ∀ r : Fin 6, 0 ≤ ([0, 2048, 8192, 32768, 131072, 65536] : List Int).getD r.val 0 := by decide
        exact f ⟨_, q⟩
      · rw [List.getD_eq_getElem?_getD, List.getElem?_eq_none (by simp; omega)]; decide
    · decide
  · decide
theorem make_run (N : Nat) (h : N ≤ 131072) (w : World) : (Instr.makeSlice 22 (.int .i64 (N : Int)) (.int .i64 (N : Int))).run Tryz.prog w = .ok (.slice (some ⟨w.heap.size, 0, none⟩) N N) (w.alloc (.cells (Array.replicate N (Value.int .u8 0)) 5)) := by
  obtain ⟨i0, hi, hz0, hz1, hz2⟩ := info_parts info10_u8
  have r := run_make w 22 5 i0 (.int .u8 0) Tryz.underlying22 hi hz0 .i64 .i64 (N : Int) (N : Int) (by omega) (by omega) (by rw [hz2]; omega) (by omega)
  rw [r, hz1, Nat.mul_one, Int.toNat_natCast]
  have e : madeCells (Value.int .u8 0).cells N = Array.replicate N (Value.int .u8 0) := by
    apply Array.toList_inj.1
    rw [show (Value.int .u8 0).cells = #[Value.int .u8 0] from rfl, toList_madeCells_one, Array.toList_replicate]
  rw [e]
theorem zeros_sl {w : World} (b N : Nat) (t : TypeId) (h : Blk w b t ((List.replicate N (0 : Int)).map (Value.int .u8))) (hN : N ≤ 131072) : Sl w (some ⟨b, 0, none⟩) N (List.replicate N 0) := by
  have hl : N ≤ maxLen := by have : maxLen = 9223372036854775807 := rfl; omega
  refine ⟨⟨by simp; exact hl, (fun x hx => by rw [List.eq_of_mem_replicate hx]; exact ⟨Int.le_refl 0, (by decide : (0 : Int) ≤ 255)⟩), .inr ⟨_, rfl, blk_lt h, fun i hi => ?_⟩⟩, by simp, hl, (fun e => by cases e)⟩
  rw [ownB_add, blk_cell h, List.getElem?_map, List.getD_eq_getElem?_getD, List.getElem?_eq_getElem hi]
  rfl
set_option maxRecDepth 100000 in
set_option maxHeartbeats 4000000 in
theorem rcnew_bad (z : List Int) (bx : Option Addr) (cb : Nat) (w : World) (sb : Sl w bx cb z) (hE : parseE z ≠ 0) : Calls Tryz.prog 6 #[.slice bx z.length cb] w fun e w' => ∃ xi ci xr cr, e = .returned (.tuple #[rcV (newC z) xi ci xr cr, .int .i64 (parseE z)]) ∧ (xi = bx ∨ xi = none) ∧ Sl w' xi ci (newC z).img ∧ Sl w' xr cr (newC z).ram ∧ Newer w.heap.size xr ∧ Kept w w' := by
  have E : newC z = cs0 := by unfold newC; rw [if_neg hE]
  rw [E]
  have C1 := hid (fun u (g : Kept w u) => rparse_any z bx cb u (row_kept g sb.row))
  generalize parseH z = H at *
  generalize parseE z = P at *
  have d1 : (P != 0) = true := by simpa using hE
  clear E
  go_enter Tryz.func6, Tryz.ntmps6
  go_wp2_with fail
  refine (C1.out _ ((Kept.refl w).alloc _)).mono ?_
  rintro e u1 ⟨rfl, g1⟩
  have R1 : Blk u1 w.heap.size 37 rc0 := blk_kept (Kept.of g1) (blk_new w _ _)
  have K1 := hid (((Kept.refl w).alloc (.cells rc0.toArray 37)).trans (Kept.of g1))
  have R2 : Blk (u1.alloc (.cells ([.string H.title, .int .u8 H.kind, .int .i64 H.map, .bool H.ram, .bool H.bat, .bool H.clk, .int .i64 H.banks, .int .i64 H.size, .int .u8 H.sum, .int .u16 H.whole] : List Value).toArray 31)) w.heap.size 37 rc0 := blk_past R1 _
  have K2 := hid (K1.out.alloc (.cells ([.string H.title, .int .u8 H.kind, .int .i64 H.map, .bool H.ram, .bool H.bat, .bool H.clk, .int .i64 H.banks, .int .i64 H.size, .int .u8 H.sum, .int .u16 H.whole] : List Value).toArray 31))
  clear g1 R1
  go_wp2_with (first
    | ((with_reducible refine at_st _ ?_); refine wl_store rfl rfl rfl rfl R2 (by kernel_rfl) rfl (Nat.le_of_ble_eq_true rfl) (fun u3 p3 => ?_); have K3 := hid (p3.kept _ K2.out (Nat.le_refl _)); have E3 : Blk u3 w.heap.size 37 (rcL cs0 none 0 none 0) := p3.blk; clear p3))
  exact bodyPost_ret (res_cell2 Tryz.results6 rfl E3 Tryz.underlying37 rfl (by kernel_rfl)) rfl ⟨none, 0, none, 0, rfl, .inr rfl, sl_nil _, sl_nil _, (fun x h => by cases h), K3.out⟩
set_option maxRecDepth 100000 in
set_option maxHeartbeats 4000000 in
theorem rcnew_ok (z : List Int) (bx : Option Addr) (cb : Nat) (w : World) (sb : Sl w bx cb z) (hE : parseE z = 0) : Calls Tryz.prog 6 #[.slice bx z.length cb] w fun e w' => ∃ xi ci xr cr, e = .returned (.tuple #[rcV (newC z) xi ci xr cr, .int .i64 (parseE z)]) ∧ (xi = bx ∨ xi = none) ∧ Sl w' xi ci (newC z).img ∧ Sl w' xr cr (newC z).ram ∧ Newer w.heap.size xr ∧ Kept w w' := by
  have E : newC z = ⟨true, parseH z, z, List.replicate (parseH z).size.toNat 0, newR (parseH z).map, ck0, ck0, 255⟩ := by unfold newC; rw [if_pos hE]
  have rl := (new_ok z sb.row.2.1).rlen
  rw [E] at rl
  simp only [List.length_replicate] at rl
  have s0 : 0 ≤ (parseH z).size := size_pos z
  rw [E]
  have C1 := hid (fun u (g : Kept w u) => rparse_any z bx cb u (row_kept g sb.row))
  rw [hE] at C1
  generalize parseH z = H at *
  have C2 := hid (fun u => rnew_any H.map u)
  obtain ⟨h0, h1, h2, h3, h4, h5, h6, h7, h8, h9⟩ := H
  simp only at C1 C2 rl s0
  obtain ⟨N, rfl⟩ : ∃ N : Nat, h7 = (N : Int) := ⟨h7.toNat, by omega⟩
  rw [Int.toNat_natCast] at rl
  simp only [Int.toNat_natCast]
  generalize newR h2 = M at *
  generalize newE h2 = ME at *
  have MR := fun w => make_run N rl w
  have SB := hid sb
  clear E sb
  rw [hE]
  go_enter Tryz.func6, Tryz.ntmps6
  go_wp2_with fail
  refine (C1.out _ ((Kept.refl w).alloc _)).mono ?_
  rintro e u1 ⟨rfl, g1⟩
  have R1 : Blk u1 w.heap.size 37 rc0 := blk_kept (Kept.of g1) (blk_new w _ _)
  have K1 := hid (((Kept.refl w).alloc (.cells rc0.toArray 37)).trans (Kept.of g1))
  have z1 := blk_lt R1
  clear g1
  go_wp2_with fail
  refine (C2.out _).mono ?_
  rintro e u2 ⟨rfl, k2⟩
  have R2 := blk_kept k2 (blk_past R1 _)
  have H2 := blk_kept k2 (blk_new u1 [.string h0, .int .u8 h1, .int .i64 h2, .bool h3, .bool h4, .bool h5, .int .i64 h6, .int .i64 (N : Int), .int .u8 h8, .int .u16 h9] 31)
  have K2 := hid ((K1.out.alloc _).trans k2)
  clear k2 R1
  have z2 := blk_lt H2
  have H3 := blk_past H2 (.cells ([.int .i64 M.kind, .bool M.op, .int .u8 M.low, .int .u8 M.high, .int .u8 M.ram, .bool M.mode] : List Value).toArray 33)
  have M3 := blk_new u2 [.int .i64 M.kind, .bool M.op, .int .u8 M.low, .int .u8 M.high, .int .u8 M.ram, .bool M.mode] 33
  have R3 := blk_past R2 (.cells ([.int .i64 M.kind, .bool M.op, .int .u8 M.low, .int .u8 M.high, .int .u8 M.ram, .bool M.mode] : List Value).toArray 33)
  have K3 := hid (K2.out.alloc (.cells ([.int .i64 M.kind, .bool M.op, .int .u8 M.low, .int .u8 M.high, .int .u8 M.ram, .bool M.mode] : List Value).toArray 33))
  have RB := hid R3
  obtain ⟨W3, hW3⟩ : ∃ v, u2.alloc (.cells ([.int .i64 M.kind, .bool M.op, .int .u8 M.low, .int .u8 M.high, .int .u8 M.ram, .bool M.mode] : List Value).toArray 33) = v := ⟨_, rfl⟩
  have s3 : u2.heap.size < W3.heap.size := by rw [← hW3, World.size_alloc]; omega
  rw [hW3] at H3 M3 R3 K3 RB
  have HH := hid H3
  have HM := hid M3
  have qh := blk_cell H3
  have qm := blk_cell M3
  have qr := blk_cell R3
  have fr := blk_froz R3
  have n1 : w.heap.size ≠ W3.heap.size := by omega
  have n2 : W3.heap.size ≠ w.heap.size := by omega
  have RU := hid (show Blk (W3.alloc (.cells (Array.replicate N (.int .u8 0)) 5)).drew w.heap.size 37 rc0 from blk_drew (blk_past RB.out _))
  go_wp2_with fail
  try rw [show u2.alloc (.cells #[.int .i64 M.kind, .bool M.op, .int .u8 M.low, .int .u8 M.high, .int .u8 M.ram, .bool M.mode] 33) = W3 from hW3]
  clear H2 R2 C1 C2 H3 M3 R3 hW3
  refine wp_region_held_drew (S := (fun w' => w'.cell? ⟨u1.heap.size, 0, none⟩ = some (.string h0) ∧ w'.cell? ⟨u1.heap.size, 1, none⟩ = some (.int .u8 h1) ∧ w'.cell? ⟨u1.heap.size, 2, none⟩ = some (.int .i64 h2) ∧ w'.cell? ⟨u1.heap.size, 3, none⟩ = some (.bool h3) ∧ w'.cell? ⟨u1.heap.size, 4, none⟩ = some (.bool h4) ∧ w'.cell? ⟨u1.heap.size, 5, none⟩ = some (.bool h5) ∧ w'.cell? ⟨u1.heap.size, 6, none⟩ = some (.int .i64 h6) ∧ w'.cell? ⟨u1.heap.size, 7, none⟩ = some (.int .i64 (N : Int)) ∧ w'.cell? ⟨u1.heap.size, 8, none⟩ = some (.int .u8 h8) ∧ w'.cell? ⟨u1.heap.size, 9, none⟩ = some (.int .u16 h9) ∧ w'.cell? ⟨u2.heap.size, 0, none⟩ = some (.int .i64 M.kind) ∧ w'.cell? ⟨u2.heap.size, 1, none⟩ = some (.bool M.op) ∧ w'.cell? ⟨u2.heap.size, 2, none⟩ = some (.int .u8 M.low) ∧ w'.cell? ⟨u2.heap.size, 3, none⟩ = some (.int .u8 M.high) ∧ w'.cell? ⟨u2.heap.size, 4, none⟩ = some (.int .u8 M.ram) ∧ w'.cell? ⟨u2.heap.size, 5, none⟩ = some (.bool M.mode))) (by kernel_rfl) (by go_keep) (fun hHeld => ?_)
  refine wpAnyH_take (i := 0) (v := ?_) rfl (by kernel_rfl) (by kernel_rfl) (by kernel_rfl) (fun _ _ _ h => h) (Or.inl ⟨by rfl, ?_⟩) (by assumption) ?_
  rotate_left
  · intro w hSw
    (try dsimp only at hSw)
    go_simp
    try with_reducible rfl
  simp only [Act.put, List.getElem_toArray, List.getElem_cons_succ, List.getElem_cons_zero, List.setIfInBounds_toArray, List.set_cons_zero, List.set_cons_succ]
  refine wpAnyH_take (i := 1) (v := ?_) rfl (by kernel_rfl) (by kernel_rfl) (by kernel_rfl) (fun _ _ _ h => h) (Or.inl ⟨by rfl, ?_⟩) (by assumption) ?_
  rotate_left
  · intro w hSw
    (try dsimp only at hSw)
    go_simp
    try with_reducible rfl
  simp only [Act.put, List.getElem_toArray, List.getElem_cons_succ, List.getElem_cons_zero, List.setIfInBounds_toArray, List.set_cons_zero, List.set_cons_succ]
  refine wpAnyH_take (i := 2) (v := ?_) rfl (by kernel_rfl) (by kernel_rfl) (by kernel_rfl) (fun _ _ _ h => h) (Or.inl ⟨by rfl, ?_⟩) (by assumption) ?_
  rotate_left
  · intro w hSw
    (try dsimp only at hSw)
    go_simp
    try with_reducible rfl
  simp only [Act.put, List.getElem_toArray, List.getElem_cons_succ, List.getElem_cons_zero, List.setIfInBounds_toArray, List.set_cons_zero, List.set_cons_succ]
  refine wpAnyH_take (i := 3) (v := ?_) rfl (by kernel_rfl) (by kernel_rfl) (by kernel_rfl) (fun _ _ _ h => h) (Or.inl ⟨by rfl, ?_⟩) (by assumption) ?_
  rotate_left
  · intro w hSw
    (try dsimp only at hSw)
    go_simp
    try with_reducible rfl
  simp only [Act.put, List.getElem_toArray, List.getElem_cons_succ, List.getElem_cons_zero, List.setIfInBounds_toArray, List.set_cons_zero, List.set_cons_succ]
  refine wpAnyH_take (i := 5) (v := ?_) rfl (by kernel_rfl) (by kernel_rfl) (by kernel_rfl) (fun _ _ _ h => h) (Or.inl ⟨by rfl, ?_⟩) (by assumption) ?_
  rotate_left
  · intro w hSw
    (try dsimp only at hSw)
    go_simp
    try with_reducible rfl
  simp only [Act.put, List.getElem_toArray, List.getElem_cons_succ, List.getElem_cons_zero, List.setIfInBounds_toArray, List.set_cons_zero, List.set_cons_succ]
  refine wpAnyH_ready (rs := [4]) (by kernel_rfl) (by simp) ?_
  refine AllReadyH.cons rfl (fun K hK => ?_) AllReadyH.nil
  go_simp
  refine hK.out _ _ (by go_keep) (fun hHeld => ?_)
  clear hK K
  refine wpAnyH_take (i := 6) (v := ?_) rfl (by kernel_rfl) (by kernel_rfl) (by kernel_rfl) (fun _ _ _ h => h) (Or.inl ⟨by rfl, ?_⟩) (by assumption) ?_
  rotate_left
  · intro w hSw
    (try dsimp only at hSw)
    go_simp
    try with_reducible rfl
  simp only [Act.put, List.getElem_toArray, List.getElem_cons_succ, List.getElem_cons_zero, List.setIfInBounds_toArray, List.set_cons_zero, List.set_cons_succ]
  refine wpAnyH_ready (rs := [7]) (by kernel_rfl) (by simp) ?_
  refine AllReadyH.cons rfl (fun K hK => ?_) AllReadyH.nil
  rw [if_pos (by rfl)]
  refine wp_st RU.out rfl rfl rfl (by kernel_rfl) rfl (Nat.le_of_ble_eq_true rfl) (fun U2 pu => ?_)
  have KU := hid (pu.kept _ ((K3.out.alloc _).drew) (Nat.le_refl _))
  have RM := hid (pu.other W3.heap.size 5 ((List.replicate N (0 : Int)).map (Value.int .u8)) n2 (show (W3.alloc (.cells (Array.replicate N (.int .u8 0)) 5)).heap[W3.heap.size]? = _ from (heap_alloc_new W3 _).trans (by simp)))
  have ER0 := pu.blk
  have ER : Blk U2 w.heap.size 37 (rcL ⟨true, ⟨h0, h1, h2, h3, h4, h5, h6, (N : Int), h8, h9⟩, z, List.replicate N 0, M, ck0, ck0, 255⟩ bx cb (some ⟨W3.heap.size, 0, none⟩) N) := (by show Blk _ _ _ [_, _, _, _, _, _, _, _, _, _, _, _, .slice _ (List.replicate N (0 : Int)).length _, _, _, _, _, _, _, _, _, _, _, _, _, _, _, _, _, _, _, _]; rw [List.length_replicate]; exact ER0)
  have qh5 := blk_cell (pu.other _ _ _ (show u1.heap.size ≠ w.heap.size by omega) (blk_drew (blk_past HH.out _)))
  have qm5 := blk_cell (pu.other _ _ _ (show u2.heap.size ≠ w.heap.size by omega) (blk_drew (blk_past HM.out _)))
  clear pu ER0 qh qm qr fr
  refine hK.out _ _ (by go_keep) (fun hHeld => ?_)
  clear hK K
  simp only [Act.put, List.getElem_toArray, List.getElem_cons_succ, List.getElem_cons_zero, List.setIfInBounds_toArray, List.set_cons_zero, List.set_cons_succ]
  refine wpAnyH_take (i := 8) (v := ?_) rfl (by kernel_rfl) (by kernel_rfl) (by kernel_rfl) (fun _ _ _ h => h) (Or.inl ⟨by rfl, ?_⟩) (by assumption) ?_
  rotate_left
  · intro w hSw
    (try dsimp only at hSw)
    go_simp
    try with_reducible rfl
  simp only [Act.put, List.getElem_toArray, List.getElem_cons_succ, List.getElem_cons_zero, List.setIfInBounds_toArray, List.set_cons_zero, List.set_cons_succ]
  refine wpAnyH_done (by kernel_rfl) ?_ _
  go_wp2
  exact bodyPost_ret (res_cell2 Tryz.results6 rfl ER Tryz.underlying37 rfl (by kernel_rfl)) rfl ⟨bx, cb, _, _, rfl, .inl rfl, sl_kept KU.out SB.out, zeros_sl _ _ _ RM.out rl, (fun x hx => by cases hx; show w.heap.size ≤ W3.heap.size; omega), KU.out⟩
theorem rcnew_any (z : List Int) (bx : Option Addr) (cb : Nat) (w : World) (sb : Sl w bx cb z) : Calls Tryz.prog 6 #[.slice bx z.length cb] w fun e w' => ∃ xi ci xr cr, e = .returned (.tuple #[rcV (newC z) xi ci xr cr, .int .i64 (parseE z)]) ∧ (xi = bx ∨ xi = none) ∧ Sl w' xi ci (newC z).img ∧ Sl w' xr cr (newC z).ram ∧ Newer w.heap.size xr ∧ Kept w w' := by
  by_cases h : parseE z = 0
  · exact rcnew_ok z bx cb w sb h
  · exact rcnew_bad z bx cb w sb h
end Go.Proofs.YtfmddnekooojkaaGreatDoor
