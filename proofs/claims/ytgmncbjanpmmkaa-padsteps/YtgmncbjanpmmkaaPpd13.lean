/- What the program's calls of layer 13 come to. -/
import Derived.Test.YtgmncbjanpmmkaaRpd13
namespace Go.Proofs.Ytgmncbjanpmmkaa
open Go.RowKit
set_option linter.unusedVariables false
set_option linter.unusedSimpArgs false

set_option maxRecDepth 100000 in
set_option maxHeartbeats 4000000 in
theorem prow13_a1 (ps pl keys : Int) (bp bk : Nat) (w : World) (s0 : 0 ≤ ps) (s1 : ps ≤ 255) (k0 : 0 ≤ keys) (k1 : keys ≤ 255) (hb : bitOf ps 4 = true)
    (hp : w.cell? ⟨bp, 0, none⟩ = some (.int .u8 ps)) (hk : w.cell? ⟨bk, 0, none⟩ = some (.int .u8 keys)) :
    Calls Try.prog 17 #[.int .u8 16, .int .i64 0, .pointer (some ⟨bp, 0, none⟩), .pointer (some ⟨bk, 0, none⟩)] w fun e w' => e = .returned (.int .u8 0) ∧ w' = w := by
  have m := and16_ne ps s0 s1
  rw [hb] at m
  have a1 := and15a keys k0 k1
  have a2 := and15a (keys / 1) (by omega) (by omega)
  have d1 : keys / 1 = keys := Int.ediv_one keys
  clear hb
  go_enter Try.func17, Try.ntmps17
  go_wp2
  go_ret
  exact ⟨rfl, rfl⟩
set_option maxRecDepth 100000 in
set_option maxHeartbeats 4000000 in
theorem prow13_a0 (ps pl keys : Int) (bp bk : Nat) (w : World) (s0 : 0 ≤ ps) (s1 : ps ≤ 255) (k0 : 0 ≤ keys) (k1 : keys ≤ 255) (hb : bitOf ps 4 = false)
    (hp : w.cell? ⟨bp, 0, none⟩ = some (.int .u8 ps)) (hk : w.cell? ⟨bk, 0, none⟩ = some (.int .u8 keys)) :
    Calls Try.prog 17 #[.int .u8 16, .int .i64 0, .pointer (some ⟨bp, 0, none⟩), .pointer (some ⟨bk, 0, none⟩)] w fun e w' => e = .returned (.int .u8 (keys / 1 % 16)) ∧ w' = w := by
  have m := and16_ne ps s0 s1
  rw [hb] at m
  have a1 := and15a keys k0 k1
  have a2 := and15a (keys / 1) (by omega) (by omega)
  have d1 : keys / 1 = keys := Int.ediv_one keys
  clear hb
  go_enter Try.func17, Try.ntmps17
  go_wp2
  go_ret
  exact ⟨by rw [d1]; rfl, rfl⟩
theorem prow13_a (ps pl keys : Int) (bp bk : Nat) (w : World) (s0 : 0 ≤ ps) (s1 : ps ≤ 255) (k0 : 0 ≤ keys) (k1 : keys ≤ 255)
    (hp : w.cell? ⟨bp, 0, none⟩ = some (.int .u8 ps)) (hk : w.cell? ⟨bk, 0, none⟩ = some (.int .u8 keys)) :
    Calls Try.prog 17 #[.int .u8 16, .int .i64 0, .pointer (some ⟨bp, 0, none⟩), .pointer (some ⟨bk, 0, none⟩)] w fun e w' => e = .returned (.int .u8 (rowB (bitOf ps 4) keys 1)) ∧ w' = w := by
  cases hb : bitOf ps 4
  · exact prow13_a0 ps pl keys bp bk w s0 s1 k0 k1 hb hp hk
  · exact prow13_a1 ps pl keys bp bk w s0 s1 k0 k1 hb hp hk
set_option maxRecDepth 100000 in
set_option maxHeartbeats 4000000 in
theorem prow13_b1 (ps pl keys : Int) (bp bk : Nat) (w : World) (s0 : 0 ≤ ps) (s1 : ps ≤ 255) (k0 : 0 ≤ keys) (k1 : keys ≤ 255) (hb : bitOf ps 5 = true)
    (hp : w.cell? ⟨bp, 0, none⟩ = some (.int .u8 ps)) (hk : w.cell? ⟨bk, 0, none⟩ = some (.int .u8 keys)) :
    Calls Try.prog 17 #[.int .u8 32, .int .i64 4, .pointer (some ⟨bp, 0, none⟩), .pointer (some ⟨bk, 0, none⟩)] w fun e w' => e = .returned (.int .u8 0) ∧ w' = w := by
  have m := and32_ne ps s0 s1
  rw [hb] at m
  have a1 := and15a keys k0 k1
  have a2 := and15a (keys / 16) (by omega) (by omega)
  have d1 : keys / 1 = keys := Int.ediv_one keys
  clear hb
  go_enter Try.func17, Try.ntmps17
  go_wp2
  go_ret
  exact ⟨rfl, rfl⟩
set_option maxRecDepth 100000 in
set_option maxHeartbeats 4000000 in
theorem prow13_b0 (ps pl keys : Int) (bp bk : Nat) (w : World) (s0 : 0 ≤ ps) (s1 : ps ≤ 255) (k0 : 0 ≤ keys) (k1 : keys ≤ 255) (hb : bitOf ps 5 = false)
    (hp : w.cell? ⟨bp, 0, none⟩ = some (.int .u8 ps)) (hk : w.cell? ⟨bk, 0, none⟩ = some (.int .u8 keys)) :
    Calls Try.prog 17 #[.int .u8 32, .int .i64 4, .pointer (some ⟨bp, 0, none⟩), .pointer (some ⟨bk, 0, none⟩)] w fun e w' => e = .returned (.int .u8 (keys / 16 % 16)) ∧ w' = w := by
  have m := and32_ne ps s0 s1
  rw [hb] at m
  have a1 := and15a keys k0 k1
  have a2 := and15a (keys / 16) (by omega) (by omega)
  have d1 : keys / 1 = keys := Int.ediv_one keys
  clear hb
  go_enter Try.func17, Try.ntmps17
  go_wp2
  go_ret
  exact ⟨rfl, rfl⟩
theorem prow13_b (ps pl keys : Int) (bp bk : Nat) (w : World) (s0 : 0 ≤ ps) (s1 : ps ≤ 255) (k0 : 0 ≤ keys) (k1 : keys ≤ 255)
    (hp : w.cell? ⟨bp, 0, none⟩ = some (.int .u8 ps)) (hk : w.cell? ⟨bk, 0, none⟩ = some (.int .u8 keys)) :
    Calls Try.prog 17 #[.int .u8 32, .int .i64 4, .pointer (some ⟨bp, 0, none⟩), .pointer (some ⟨bk, 0, none⟩)] w fun e w' => e = .returned (.int .u8 (rowB (bitOf ps 5) keys 16)) ∧ w' = w := by
  cases hb : bitOf ps 5
  · exact prow13_b0 ps pl keys bp bk w s0 s1 k0 k1 hb hp hk
  · exact prow13_b1 ps pl keys bp bk w s0 s1 k0 k1 hb hp hk
set_option maxRecDepth 100000 in
set_option maxHeartbeats 4000000 in
theorem plines13 (p : Pd) (keys : Int) (w : World) (I : PdIn p) (k0 : 0 ≤ keys) (k1 : keys ≤ 255) : Calls Try.prog 9 #[pdV p, .int .u8 keys] w fun e w' => e = .returned (.int .u8 (linesP p.sel keys)) ∧ Kept w w' := by
  obtain ⟨ps, pl⟩ := p
  have s0 := I.s0
  have s1 := I.s1
  have l0 := I.l0
  have l1 := I.l1
  simp only at s0 s1 l0 l1
  have RL := rows_lines (bitOf ps 4) (bitOf ps 5) keys k0 k1
  have H4 := hid (fun u hp hk => prow13_a ps pl keys w.heap.size (w.heap.size + 1) u s0 s1 k0 k1 hp hk)
  have H5 := hid (fun u hp hk => prow13_b ps pl keys w.heap.size (w.heap.size + 1) u s0 s1 k0 k1 hp hk)
  show Calls _ _ _ _ fun e w' => e = .returned (.int .u8 (linesB (bitOf ps 4) (bitOf ps 5) keys)) ∧ Kept w w'
  generalize linesB (bitOf ps 4) (bitOf ps 5) keys = LV at *
  generalize rowB (bitOf ps 4) keys 1 = x at *
  generalize rowB (bitOf ps 5) keys 16 = y at *
  clear I
  go_enter Try.func9, Try.ntmps9
  go_wp2_with fail
  refine (H4.out _ (by simp [go_sem]) (by simp [go_sem])).mono ?_
  rintro e u1 ⟨rfl, rfl⟩
  go_wp2_with fail
  refine (H5.out _ (by simp [go_sem]) (by simp [go_sem])).mono ?_
  rintro e u2 ⟨rfl, rfl⟩
  go_wp2
  go_ret
  exact ⟨rfl, ((Kept.refl w).alloc _).alloc _⟩
set_option maxRecDepth 100000 in
set_option maxHeartbeats 4000000 in
theorem pread13 (p : Pd) (keys : Int) (w : World) (I : PdIn p) (k0 : 0 ≤ keys) (k1 : keys ≤ 255) : Calls Try.prog 11 #[pdV p, .int .u8 keys] w fun e w' => e = .returned (.int .u8 (readP p keys)) ∧ Kept w w' := by
  have HL := hid (fun u => plines13 p keys u I k0 k1)
  obtain ⟨n0, n1⟩ := lines_in p.sel keys k0 k1
  unfold readP
  obtain ⟨ps, pl⟩ := p
  have s0 := I.s0
  have s1 := I.s1
  have l0 := I.l0
  have l1 := I.l1
  simp only at s0 s1 l0 l1
  simp only at *
  generalize linesP ps keys = n at *
  have e1 := read_or ps n s0 s1 n0 n1
  clear I
  have P0 := hid (blk_new w [.int .u8 ps, .int .u8 pl] 23)
  go_enter Try.func11, Try.ntmps11
  go_wp2_with fail
  go_region_held3 (fun w' => w'.cell? ⟨w.heap.size, 0, none⟩ = some (.int .u8 ps) ∧ w'.cell? ⟨w.heap.size, 1, none⟩ = some (.int .u8 pl)) (go_keep) ((refine (HL.out _).mono ?_; rintro e v1 ⟨rfl, q1⟩; have c2 := blk_cell (blk_kept q1 (blk_drew P0.out)); have KZ := hid (((Kept.refl w).alloc (.cells ([.int .u8 ps, .int .u8 pl] : List Value).toArray 23)).drew.trans q1)))
  all_goals
    go_wp2
    go_ret
    exact ⟨by first | rfl | (show Ending.returned (.int .u8 (bits .or .u8 (bits .or .u8 192 (bits .and .u8 ps 48)) n)) = _; rw [e1]), KZ.out⟩
set_option maxRecDepth 100000 in
set_option maxHeartbeats 4000000 in
theorem pwrite13 (p : Pd) (v : Int) (w : World) (I : PdIn p) (v0 : 0 ≤ v) (v1 : v ≤ 255) : Calls Try.prog 13 #[pdV p, .int .u8 v] w fun e w' => e = .returned (pdV (writeP p v)) ∧ Kept w w' := by
  obtain ⟨ps, pl⟩ := p
  have s0 := I.s0
  have s1 := I.s1
  have l0 := I.l0
  have l1 := I.l1
  simp only at s0 s1 l0 l1
  have e1 := and48 v v0 v1
  clear I
  go_enter Try.func13, Try.ntmps13
  go_wp2
  exact bodyPost_ret (v := pdV ⟨v / 16 % 4 * 16, pl⟩) (by simp [results, Try.results13, go_sem]) rfl ⟨rfl, by repeat (first | with_reducible exact Kept.refl _ | with_reducible refine Kept.alloc ?_ _ | with_reducible refine Kept.drew ?_ | (with_reducible refine Kept.setCell8 ?_ ?_ _ _; rotate_left; (first | exact Nat.le_refl _ | omega | (simp; done) | (simp; omega))))⟩
set_option maxRecDepth 100000 in
set_option maxHeartbeats 4000000 in
theorem pstep13 (p : Pd) (keys : Int) (w : World) (I : PdIn p) (k0 : 0 ≤ keys) (k1 : keys ≤ 255) : Calls Try.prog 15 #[pdV p, .int .u8 keys] w fun e w' => e = .returned (.tuple #[pdV (stepP p keys), .bool (askP p keys)]) ∧ Kept w w' := by
  have HL := hid (fun u => plines13 p keys u I k0 k1)
  obtain ⟨n0, n1⟩ := lines_in p.sel keys k0 k1
  unfold stepP askP
  obtain ⟨ps, pl⟩ := p
  have s0 := I.s0
  have s1 := I.s1
  have l0 := I.l0
  have l1 := I.l1
  simp only at s0 s1 l0 l1
  simp only at *
  generalize linesP ps keys = n at *
  have e1 := fell_eq pl n l0 l1 n0 n1
  have e2 := e1
  rw [and15a pl l0 l1] at e2
  clear I
  have X0 : Blk ((w.alloc (.cells ([.int .u8 ps, .int .u8 pl] : List Value).toArray 23)).alloc (.cells ([.int .u8 0, .int .u8 0] : List Value).toArray 23)) w.heap.size 23 [.int .u8 ps, .int .u8 pl] := blk_past (blk_new w _ _) _
  have X1 : Blk ((w.alloc (.cells ([.int .u8 ps, .int .u8 pl] : List Value).toArray 23)).alloc (.cells ([.int .u8 0, .int .u8 0] : List Value).toArray 23)) (w.heap.size + 1) 23 [.int .u8 0, .int .u8 0] := by have q := blk_new (w.alloc (.cells ([.int .u8 ps, .int .u8 pl] : List Value).toArray 23)) [.int .u8 0, .int .u8 0] 23; rw [World.size_alloc] at q; exact q
  have zx : ((w.alloc (.cells ([.int .u8 ps, .int .u8 pl] : List Value).toArray 23)).alloc (.cells ([.int .u8 0, .int .u8 0] : List Value).toArray 23)).heap.size = w.heap.size + 1 + 1 := by rw [World.size_alloc, World.size_alloc]
  have KX := hid (((Kept.refl w).alloc (.cells ([.int .u8 ps, .int .u8 pl] : List Value).toArray 23)).alloc (.cells ([.int .u8 0, .int .u8 0] : List Value).toArray 23))
  go_enter Try.func15, Try.ntmps15
  go_wp2_with fail
  refine (HL.out _).mono ?_
  rintro e u1 ⟨rfl, k1⟩
  have R1 := blk_kept k1 X1
  have Q1 := blk_kept k1 X0
  have K1 := hid (KX.out.trans k1)
  have c1 := blk_cell Q1
  have lt1 := blk_lt R1
  clear k1 X0 X1 KX zx
  go_wp2_with (first
      | ((with_reducible refine at_st 5 ?_); refine wl_store rfl rfl rfl rfl Q1 (by kernel_rfl) rfl (Nat.le_of_ble_eq_true rfl) (fun v6 p6 => ?_); have B6 : Blk v6 w.heap.size 23 [.int .u8 ps, .int .u8 n] := p6.blk; have z6 := p6.size; have R6 := p6.other _ _ _ (Nat.succ_ne_self _) R1; have K6 := hid (p6.kept _ K1.out (Nat.le_refl _)); clear p6; have c6 := blk_cell B6; have l6 := blk_lt R6; clear Q1 R1 K1 c1)
      | ((with_reducible refine at_st 23 ?_); refine wl_store rfl rfl rfl rfl R6 (by kernel_rfl) rfl (Nat.le_of_ble_eq_true rfl) (fun v7 p7 => ?_); have B7 : Blk v7 (w.heap.size + 1) 23 [.int .u8 ps, .int .u8 n] := p7.blk; have z7 := p7.size; have K7 := hid (p7.kept _ K6.out (Nat.le_succ _)); clear p7))
  exact bodyPost_ret (res_cell2 Try.results15 rfl B7 Try.underlying23 rfl (by kernel_rfl)) rfl ⟨by first | rfl | (rw [← e2]; rfl), K7.out⟩
end Go.Proofs.Ytgmncbjanpmmkaa
