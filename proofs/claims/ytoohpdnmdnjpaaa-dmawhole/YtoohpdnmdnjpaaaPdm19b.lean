/- The two halves of a cycle; a cycle. -/
import Derived.Test.YtoohpdnmdnjpaaaPdm19
import Derived.Deep.RegionHeld3
namespace Go.Proofs.Ytoohpdnmdnjpaaa
open Go.RowKit
set_option linter.unusedVariables false
set_option linter.unusedSimpArgs false

theorem wp_st19 {P : Program} {op : Oper} {a : Act} {w : World} {K : Act → World → Prop} {Q : Exit → Act → World → Prop} {ty : TypeId} {x y : Operand} {b o : Nat} {v : Value} {t : TypeId} {cs : List Value}
    (hB : Blk w b t cs) (ho : op.op = .store ty x y) (hx : a.eval x = .pointer (some ⟨b, o, none⟩)) (hy : a.eval y = v)
    (hi : (P.info? ty).map (·.size) = some v.cells.size) (h1 : v.cells.toList.all (·.oneCell') = true) (hl : o + v.cells.toList.length ≤ cs.length)
    (h : ∀ u, Put w b t (cs.take o ++ v.cells.toList ++ cs.drop (o + v.cells.toList.length)) u → K (a.put op.dst undef) u) : op.wp P a w K Q := by
  unfold Oper.wp execOp
  simp only [ho, hx, hy, Instr.storeAt, Instr.sureAddr, Sem.run_bind, Sem.run_pure, Result.andThen_ok, run_storeVar_any w b o ty v (blk_there hB (by simpa using hl)) hi (Array.all_eq_true_iff_forall_mem.2 (fun x hx => List.all_eq_true.1 h1 x (by simpa using hx)))]
  exact h _ (put_of hB o v.cells.toList hl)
theorem five19 {w : World} {b : Nat} {s : Dm} (h : Blk w b 23 [.bool s.on, .int .u8 s.page, .int .u8 s.pos, .int .u8 s.wait, .int .u8 s.next]) : w.cell? ⟨b, 0, none⟩ = some (.bool s.on) ∧ w.cell? ⟨b, 1, none⟩ = some (.int .u8 s.page) ∧ w.cell? ⟨b, 2, none⟩ = some (.int .u8 s.pos) ∧ w.cell? ⟨b, 3, none⟩ = some (.int .u8 s.wait) ∧ w.cell? ⟨b, 4, none⟩ = some (.int .u8 s.next) := ⟨blk_cell h 0, blk_cell h 1, blk_cell h 2, blk_cell h 3, blk_cell h 4⟩
set_option maxRecDepth 100000 in
set_option maxHeartbeats 4000000 in
theorem pco19_0 (s : Dm) (bd : Nat) (w : World) (hB : Blk w bd 23 [.bool s.on, .int .u8 s.page, .int .u8 s.pos, .int .u8 s.wait, .int .u8 s.next]) (hw : s.wait = 0) : Calls Try.prog 20 #[.pointer (some ⟨bd, 0, none⟩)] w fun e w' => e = .returned (.tuple #[]) ∧ Blk w' bd 23 [.bool (comeD s).on, .int .u8 (comeD s).page, .int .u8 (comeD s).pos, .int .u8 (comeD s).wait, .int .u8 (comeD s).next] ∧ KeptX (fun k => k = bd) w w' := by
  unfold comeD
  rw [if_pos hw]
  have B0 := hid hB
  obtain ⟨d0, d1, d2, d3, d4⟩ := five19 hB
  rw [hw] at d3
  clear hB hw
  go_enter Try.func20, Try.ntmps20
  go_wp2_with fail
  go_end0
  exact ⟨rfl, B0.out, KeptX.refl w⟩
set_option maxRecDepth 100000 in
set_option maxHeartbeats 4000000 in
theorem pco19_1 (s : Dm) (bd : Nat) (w : World) (I : DmIn s) (hB : Blk w bd 23 [.bool s.on, .int .u8 s.page, .int .u8 s.pos, .int .u8 s.wait, .int .u8 s.next]) (hw : s.wait ≠ 0) : Calls Try.prog 20 #[.pointer (some ⟨bd, 0, none⟩)] w fun e w' => e = .returned (.tuple #[]) ∧ Blk w' bd 23 [.bool (comeD s).on, .int .u8 (comeD s).page, .int .u8 (comeD s).pos, .int .u8 (comeD s).wait, .int .u8 (comeD s).next] ∧ KeptX (fun k => k = bd) w w' := by
  unfold comeD
  rw [if_neg hw]
  have HN := hid (fun u => pnear19 s u I hw)
  generalize nearD s = V at *
  have B0 := hid hB
  have g : (s.wait != 0) = true := by simpa using hw
  obtain ⟨d0, d1, d2, d3, d4⟩ := five19 hB
  clear hB hw I
  go_enter Try.func20, Try.ntmps20
  go_wp2_with fail
  refine (HN.out _).mono ?_
  rintro e u1 ⟨rfl, k1⟩
  have B1 := blk_kept k1 B0.out
  have K1 := hid ((KeptX.refl (F := (fun k => k = bd)) w).then k1)
  clear k1 B0 d0 d1 d2 d3 d4
  go_wp2_with ((with_reducible refine at_st 23 ?_); refine wl_store rfl rfl rfl rfl B1 (by kernel_rfl) rfl (Nat.le_of_ble_eq_true rfl) (fun v2 p2 => ?_); have B2 : Blk v2 bd 23 [.bool V.on, .int .u8 V.page, .int .u8 V.pos, .int .u8 V.wait, .int .u8 V.next] := p2.blk; have K2 := hid (p2.keptX (fun k => k = bd) w K1.out (.inl rfl)); clear p2)
  go_end0
  exact ⟨rfl, B2, K2.out⟩
theorem pcome19 (s : Dm) (bd : Nat) (w : World) (I : DmIn s) (hB : Blk w bd 23 [.bool s.on, .int .u8 s.page, .int .u8 s.pos, .int .u8 s.wait, .int .u8 s.next]) : Calls Try.prog 20 #[.pointer (some ⟨bd, 0, none⟩)] w fun e w' => e = .returned (.tuple #[]) ∧ Blk w' bd 23 [.bool (comeD s).on, .int .u8 (comeD s).page, .int .u8 (comeD s).pos, .int .u8 (comeD s).wait, .int .u8 (comeD s).next] ∧ KeptX (fun k => k = bd) w w' := by
  by_cases hw : s.wait = 0
  · exact pco19_0 s bd w hB hw
  · exact pco19_1 s bd w I hB hw
set_option maxRecDepth 100000 in
set_option maxHeartbeats 4000000 in
theorem pgo19_0 (s : Dm) (bc bd bf bt : Nat) (w : World) (hC : Blk w bc 4 [.bool s.on]) (hB : Blk w bd 23 [.bool s.on, .int .u8 s.page, .int .u8 s.pos, .int .u8 s.wait, .int .u8 s.next]) (hF : Blk w bf 28 [.int .u16 0]) (hT : Blk w bt 5 [.int .u8 0]) (ho : s.on = false) : Calls Try.prog 17 #[.pointer (some ⟨bc, 0, none⟩), .pointer (some ⟨bd, 0, none⟩), .pointer (some ⟨bf, 0, none⟩), .pointer (some ⟨bt, 0, none⟩)] w fun e w' => e = .returned (.tuple #[]) ∧ Blk w' bd 23 [.bool (goD s).on, .int .u8 (goD s).page, .int .u8 (goD s).pos, .int .u8 (goD s).wait, .int .u8 (goD s).next] ∧ Blk w' bf 28 [.int .u16 (fromD s)] ∧ Blk w' bt 5 [.int .u8 (toD s)] ∧ KeptX (fun k => k = bd ∨ k = bf ∨ k = bt) w w' := by
  have E1 : fromD s = 0 := by unfold fromD; rw [if_neg (by rw [ho]; decide)]
  have E2 : toD s = 0 := by unfold toD; rw [if_neg (by rw [ho]; decide)]
  have E3 : goD s = s := by unfold goD; rw [if_neg (by rw [ho]; decide)]
  rw [E1, E2, E3]
  have B0 := hid hB
  have F0 := hid hF
  have T0 := hid hT
  have c0 : w.cell? ⟨bc, 0, none⟩ = some (.bool s.on) := blk_cell hC 0
  rw [ho] at c0
  clear hB hF hT hC ho E1 E2 E3
  go_enter Try.func17, Try.ntmps17
  go_wp2_with fail
  go_end0
  exact ⟨rfl, B0.out, F0.out, T0.out, KeptX.refl w⟩
set_option maxRecDepth 100000 in
set_option maxHeartbeats 4000000 in
theorem pgo19_1 (s : Dm) (bc bd bf bt : Nat) (w : World) (I : DmIn s) (hC : Blk w bc 4 [.bool s.on]) (hB : Blk w bd 23 [.bool s.on, .int .u8 s.page, .int .u8 s.pos, .int .u8 s.wait, .int .u8 s.next]) (hF : Blk w bf 28 [.int .u16 0]) (hT : Blk w bt 5 [.int .u8 0]) (n1 : bd ≠ bf) (n2 : bd ≠ bt) (n3 : bf ≠ bt) (ho : s.on = true) : Calls Try.prog 17 #[.pointer (some ⟨bc, 0, none⟩), .pointer (some ⟨bd, 0, none⟩), .pointer (some ⟨bf, 0, none⟩), .pointer (some ⟨bt, 0, none⟩)] w fun e w' => e = .returned (.tuple #[]) ∧ Blk w' bd 23 [.bool (goD s).on, .int .u8 (goD s).page, .int .u8 (goD s).pos, .int .u8 (goD s).wait, .int .u8 (goD s).next] ∧ Blk w' bf 28 [.int .u16 (fromD s)] ∧ Blk w' bt 5 [.int .u8 (toD s)] ∧ KeptX (fun k => k = bd ∨ k = bf ∨ k = bt) w w' := by
  have E1 : fromD s = srcD s.page (plcD s.pos) := by unfold fromD; rw [if_pos ho]
  have E2 : toD s = plcD s.pos := by unfold toD; rw [if_pos ho]
  have E3 : goD s = furD s := by unfold goD; rw [if_pos ho]
  rw [E1, E2, E3]
  have HP := hid (fun u => pplc19 s u)
  have HS := hid (fun u => psrc19 s.page (plcD s.pos) u I.p0 I.p1 (plc_in I.a0).1 (by have := (plc_in I.a0).2; omega))
  have HG := hid (fun u => pfur19 s u I)
  generalize srcD s.page (plcD s.pos) = S at *
  generalize plcD s.pos = A at *
  generalize furD s = V at *
  have B0 := hid hB
  have F0 := hid hF
  have T0 := hid hT
  have K0 := hid (KeptX.refl (F := (fun k => k = bd ∨ k = bf ∨ k = bt)) w)
  have c0 : w.cell? ⟨bc, 0, none⟩ = some (.bool s.on) := blk_cell hC 0
  rw [ho] at c0
  obtain ⟨d0, d1, d2, d3, d4⟩ := five19 hB
  clear hB hF hT hC ho E1 E2 E3 I
  go_enter Try.func17, Try.ntmps17
  go_wp2_with fail
  clear c0
  refine wp_region_held_drew (S := (fun w' => w'.cell? ⟨bd, 0, none⟩ = some (.bool s.on) ∧ w'.cell? ⟨bd, 1, none⟩ = some (.int .u8 s.page) ∧ w'.cell? ⟨bd, 2, none⟩ = some (.int .u8 s.pos) ∧ w'.cell? ⟨bd, 3, none⟩ = some (.int .u8 s.wait) ∧ w'.cell? ⟨bd, 4, none⟩ = some (.int .u8 s.next))) (by kernel_rfl) (by go_keep) (fun hHeld => ?_)
  have K1 := hid K0.out.drew
  have B1 := hid (blk_drew B0.out)
  have F1 := hid (blk_drew F0.out)
  have T1 := hid (blk_drew T0.out)
  clear K0 B0 F0 T0 d0 d1 d2 d3 d4
  obtain ⟨d0, d1, d2, d3, d4⟩ := five19 B1.out
  refine wpAnyH_take (i := 0) (v := ?_) rfl (by kernel_rfl) (by kernel_rfl) (by kernel_rfl) (fun _ _ _ h => h) (Or.inl ⟨by rfl, ?_⟩) (by assumption) ?_
  rotate_left
  · intro w hSw
    (try dsimp only at hSw)
    obtain ⟨s0, s1, s2, s3, s4⟩ := hSw
    go_simp
    try with_reducible rfl
  simp only [Act.put, List.getElem_toArray, List.getElem_cons_succ, List.getElem_cons_zero, List.setIfInBounds_toArray, List.set_cons_zero, List.set_cons_succ]
  refine wpAnyH_take (i := 1) (v := ?_) rfl (by kernel_rfl) (by kernel_rfl) (by kernel_rfl) (fun _ _ _ h => h) (Or.inl ⟨by rfl, ?_⟩) (by assumption) ?_
  rotate_left
  · intro w hSw
    (try dsimp only at hSw)
    obtain ⟨s0, s1, s2, s3, s4⟩ := hSw
    go_simp
    try with_reducible rfl
  simp only [Act.put, List.getElem_toArray, List.getElem_cons_succ, List.getElem_cons_zero, List.setIfInBounds_toArray, List.set_cons_zero, List.set_cons_succ]
  refine wpAnyH_take (i := 2) (v := ?_) rfl (by kernel_rfl) (by kernel_rfl) (by kernel_rfl) (fun _ _ _ h => h) (Or.inl ⟨by rfl, ?_⟩) (by assumption) ?_
  rotate_left
  · intro w hSw
    (try dsimp only at hSw)
    obtain ⟨s0, s1, s2, s3, s4⟩ := hSw
    go_simp
    try with_reducible rfl
  simp only [Act.put, List.getElem_toArray, List.getElem_cons_succ, List.getElem_cons_zero, List.setIfInBounds_toArray, List.set_cons_zero, List.set_cons_succ]
  refine wpAnyH_take (i := 5) (v := ?_) rfl (by kernel_rfl) (by kernel_rfl) (by kernel_rfl) (fun _ _ _ h => h) (Or.inl ⟨by rfl, ?_⟩) (by assumption) ?_
  rotate_left
  · intro w hSw
    (try dsimp only at hSw)
    obtain ⟨s0, s1, s2, s3, s4⟩ := hSw
    go_simp
    try with_reducible rfl
  simp only [Act.put, List.getElem_toArray, List.getElem_cons_succ, List.getElem_cons_zero, List.setIfInBounds_toArray, List.set_cons_zero, List.set_cons_succ]
  refine wpAnyH_ready (rs := [3]) (by kernel_rfl) (by simp) ?_
  refine AllReadyH.cons rfl (fun K hK => ?_) AllReadyH.nil
  go_simp
  refine (HP.out _).mono ?_
  rintro e y2 ⟨rfl, k1⟩
  have K2 := hid (K1.out.then k1)
  have B2 := hid (blk_kept k1 B1.out)
  have F2 := hid (blk_kept k1 F1.out)
  have T2 := hid (blk_kept k1 T1.out)
  clear k1 K1 B1 F1 T1 d0 d1 d2 d3 d4
  obtain ⟨d0, d1, d2, d3, d4⟩ := five19 B2.out
  refine hK.out _ _ (by go_keep) (fun hHeld => ?_)
  clear hK K
  try simp only [Act.put, List.getElem_toArray, List.getElem_cons_succ, List.getElem_cons_zero, List.setIfInBounds_toArray, List.set_cons_zero, List.set_cons_succ]
  refine wpAnyH_ready (rs := [4]) (by kernel_rfl) (by simp) ?_
  refine AllReadyH.cons rfl (fun K hK => ?_) AllReadyH.nil
  go_simp
  refine (HS.out _).mono ?_
  rintro e ux ⟨rfl, rfl⟩
  refine hK.out _ _ (by go_keep) (fun hHeld => ?_)
  clear hK K
  try simp only [Act.put, List.getElem_toArray, List.getElem_cons_succ, List.getElem_cons_zero, List.setIfInBounds_toArray, List.set_cons_zero, List.set_cons_succ]
  refine wpAnyH_ready (rs := [6]) (by kernel_rfl) (by simp) ?_
  refine AllReadyH.cons rfl (fun K hK => ?_) AllReadyH.nil
  go_simp
  refine (HP.out _).mono ?_
  rintro e y3 ⟨rfl, k1⟩
  have K3 := hid (K2.out.then k1)
  have B3 := hid (blk_kept k1 B2.out)
  have F3 := hid (blk_kept k1 F2.out)
  have T3 := hid (blk_kept k1 T2.out)
  clear k1 K2 B2 F2 T2 d0 d1 d2 d3 d4
  obtain ⟨d0, d1, d2, d3, d4⟩ := five19 B3.out
  refine hK.out _ _ (by go_keep) (fun hHeld => ?_)
  clear hK K
  try simp only [Act.put, List.getElem_toArray, List.getElem_cons_succ, List.getElem_cons_zero, List.setIfInBounds_toArray, List.set_cons_zero, List.set_cons_succ]
  refine wpAnyH_ready (rs := [7]) (by kernel_rfl) (by simp) ?_
  refine AllReadyH.cons rfl (fun K hK => ?_) AllReadyH.nil
  refine wp_st19 F3.out rfl rfl rfl (by kernel_rfl) rfl (Nat.le_of_ble_eq_true rfl) (fun y4 p4 => ?_)
  have F4 : Hid (Blk y4 bf 28 [.int .u16 S]) := p4.blk
  have B4 := hid (p4.other _ _ _ n1 B3.out)
  have T4 := hid (p4.other _ _ _ n3.symm T3.out)
  have K4 := hid (p4.keptX (fun k => k = bd ∨ k = bf ∨ k = bt) w K3.out (.inl (.inr (.inl rfl))))
  clear p4 K3 B3 F3 T3 d0 d1 d2 d3 d4
  obtain ⟨d0, d1, d2, d3, d4⟩ := five19 B4.out
  refine hK.out _ _ (by go_keep) (fun hHeld => ?_)
  clear hK K
  try simp only [Act.put, List.getElem_toArray, List.getElem_cons_succ, List.getElem_cons_zero, List.setIfInBounds_toArray, List.set_cons_zero, List.set_cons_succ]
  refine wpAnyH_ready (rs := [8]) (by kernel_rfl) (by simp) ?_
  refine AllReadyH.cons rfl (fun K hK => ?_) AllReadyH.nil
  refine wp_st19 T4.out rfl rfl rfl (by kernel_rfl) rfl (Nat.le_of_ble_eq_true rfl) (fun y5 p5 => ?_)
  have T5 : Hid (Blk y5 bt 5 [.int .u8 A]) := p5.blk
  have B5 := hid (p5.other _ _ _ n2 B4.out)
  have F5 := hid (p5.other _ _ _ n3 F4.out)
  have K5 := hid (p5.keptX (fun k => k = bd ∨ k = bf ∨ k = bt) w K4.out (.inl (.inr (.inr rfl))))
  clear p5 K4 B4 F4 T4 d0 d1 d2 d3 d4
  obtain ⟨d0, d1, d2, d3, d4⟩ := five19 B5.out
  refine hK.out _ _ (by go_keep) (fun hHeld => ?_)
  clear hK K
  try simp only [Act.put, List.getElem_toArray, List.getElem_cons_succ, List.getElem_cons_zero, List.setIfInBounds_toArray, List.set_cons_zero, List.set_cons_succ]
  refine wpAnyH_done (by kernel_rfl) ?_ _
  clear hHeld
  go_wp2_with fail
  refine (HG.out _).mono ?_
  rintro e y6 ⟨rfl, k1⟩
  have K6 := hid (K5.out.then k1)
  have B6 := blk_kept k1 B5.out
  have F6 := blk_kept k1 F5.out
  have T6 := blk_kept k1 T5.out
  clear k1 K5 B5 F5 T5 d0 d1 d2 d3 d4
  go_wp2_with ((with_reducible refine at_st 23 ?_); refine wl_store rfl rfl rfl rfl B6 (by kernel_rfl) rfl (Nat.le_of_ble_eq_true rfl) (fun v7 p7 => ?_); have B7 : Blk v7 bd 23 [.bool V.on, .int .u8 V.page, .int .u8 V.pos, .int .u8 V.wait, .int .u8 V.next] := p7.blk; have F7 := p7.other _ _ _ n1.symm F6; have T7 := p7.other _ _ _ n2.symm T6; have K7 := hid (p7.keptX (fun k => k = bd ∨ k = bf ∨ k = bt) w K6.out (.inl (.inl rfl))); clear p7)
  go_end0
  exact ⟨rfl, B7, F7, T7, K7.out⟩
theorem pgo19 (s : Dm) (bc bd bf bt : Nat) (w : World) (I : DmIn s) (hC : Blk w bc 4 [.bool s.on]) (hB : Blk w bd 23 [.bool s.on, .int .u8 s.page, .int .u8 s.pos, .int .u8 s.wait, .int .u8 s.next]) (hF : Blk w bf 28 [.int .u16 0]) (hT : Blk w bt 5 [.int .u8 0]) (n1 : bd ≠ bf) (n2 : bd ≠ bt) (n3 : bf ≠ bt) : Calls Try.prog 17 #[.pointer (some ⟨bc, 0, none⟩), .pointer (some ⟨bd, 0, none⟩), .pointer (some ⟨bf, 0, none⟩), .pointer (some ⟨bt, 0, none⟩)] w fun e w' => e = .returned (.tuple #[]) ∧ Blk w' bd 23 [.bool (goD s).on, .int .u8 (goD s).page, .int .u8 (goD s).pos, .int .u8 (goD s).wait, .int .u8 (goD s).next] ∧ Blk w' bf 28 [.int .u16 (fromD s)] ∧ Blk w' bt 5 [.int .u8 (toD s)] ∧ KeptX (fun k => k = bd ∨ k = bf ∨ k = bt) w w' := by
  cases ho : s.on
  · exact pgo19_0 s bc bd bf bt w hC hB hF hT ho
  · exact pgo19_1 s bc bd bf bt w I hC hB hF hT n1 n2 n3 ho
end Go.Proofs.Ytoohpdnmdnjpaaa
