/- What read of the program's layer 7 comes to. What read of the program's layer 7 comes to where it gives up. -/
import Derived.Test.YtfmddnekooojkaaGreatDoorG35
import Derived.Deep.RegionHeld3
import Derived.Deep.DeepCutAuto
namespace Go.Proofs.YtfmddnekooojkaaGreatDoor
open Go.RowKit
set_option linter.unusedVariables false
set_option linter.unusedSimpArgs false

abbrev hdV (H : Hd) : Value := .agg #[.string H.title, .int .u8 H.kind, .int .i64 H.map, .bool H.ram, .bool H.bat, .bool H.clk, .int .i64 H.banks, .int .i64 H.size, .int .u8 H.sum, .int .u16 H.whole]
theorem Kept.froz {W w : World} (h : Kept W w) {x : Addr} (hx : x.block < W.heap.size) : w.frozen? x = W.frozen? x := by
  unfold World.frozen?; rw [h.block x.block hx]
theorem parse_parts (z : List Int) (h : parseE z = 0) : 336 ≤ z.length ∧ kindOk (z.getD 327 0) = true ∧ ¬ sizeBad (z.getD 328 0) (z.getD 329 0) (z.length : Int) ∧ sumOf z = z.getD 333 0 := by
  unfold parseE at h
  split at h
  · cases h
  · rename_i h1
    split at h
    · cases h
    · rename_i h2
      split at h
      · cases h
      · rename_i h3
        split at h
        · cases h
        · rename_i h4
          exact ⟨by omega, by simpa using h2, h3, Classical.not_not.1 h4⟩
theorem get_off {w : World} {x : Addr} {v : Value} {n : Nat} (h : w.cell? (x.add n) = some v) (hn : 0 < n) : w.cell? ⟨x.block, x.off + n, none⟩ = some v := by
  have e : x.add n = ⟨x.block, x.off + n, none⟩ := by unfold Addr.add; rw [if_neg (by omega)]
  rw [← e]; exact h
theorem ram_cell {w : World} (h : Has w 0 ramsA) (m : Int) (m0 : 0 ≤ m) (m1 : m ≤ 5) : w.cell? ⟨0, m.toNat, none⟩ = some (.int .i64 (sizeM m)) := by
  have : m = 0 ∨ m = 1 ∨ m = 2 ∨ m = 3 ∨ m = 4 ∨ m = 5 := by omega
  rcases this with rfl | rfl | rfl | rfl | rfl | rfl <;> exact h.2 _
theorem hi_lo (a b : Int) (a0 : 0 ≤ a) (a1 : a ≤ 255) (b0 : 0 ≤ b) (b1 : b ≤ 255) : bits .or .u16 (a * 256) b = 256 * a + b := by
  have h : (BitVec.ofInt 16 (a * 256) ||| BitVec.ofInt 16 b).toNat = a.toNat * 256 + b.toNat := by
    rw [BitVec.toNat_or, BitVec.toNat_ofInt, BitVec.toNat_ofInt]
    have e1 : (a * 256 % ((2 ^ 16 : Nat) : Int)).toNat = a.toNat * 256 := by omega
    have e2 : (b % ((2 ^ 16 : Nat) : Int)).toNat = b.toNat := by omega
    rw [e1, e2]
    have := Nat.shiftLeft_add_eq_or_of_lt (i := 8) (b := b.toNat) (by omega) a.toNat
    rw [Nat.shiftLeft_eq] at this
    exact this.symm
  show IntKind.u16.wrap ((BitVec.ofInt 16 (a * 256) ||| BitVec.ofInt 16 b).toNat : Nat) = 256 * a + b
  rw [h, IntKind.wrap_u16]
  omega
set_option maxRecDepth 100000 in
set_option maxHeartbeats 8000000 in
theorem pread_ok (z : List Int) (a : Option Addr) (cap : Nat) (w : World) (lay : Lay7 w) (row : Row w a z) (lc : z.length ≤ cap) (cm : cap ≤ maxLen) (ok : parseE z = 0) :
    Calls Tryz.prog 48 #[.slice a z.length cap] w fun e w' => e = .returned (hdV (parseH z)) ∧ Kept w w' := by
  obtain ⟨hl, hk, hs, hsum⟩ := parse_parts z ok
  have HP : Hid (parseH z = ⟨strB (titL z), z.getD 327 0, kMap (z.getD 327 0), kRam (z.getD 327 0), kBat (z.getD 327 0), kClk (z.getD 327 0), mostOf (z.getD 328 0) / 16384, (if kRam (z.getD 327 0) then sizeM (z.getD 329 0) else 0), sumOf z, 256 * z.getD 334 0 + z.getD 335 0⟩) := hid (by unfold parseH; rw [if_pos ok])
  obtain ⟨x, rfl, hx, hc⟩ := row_get row (by omega)
  have HC := hid (fun i (hi : i < 336) => hc i (by omega))
  have LY := hid lay
  have ML := row.1
  obtain ⟨c327, k0, k1⟩ := hc 327 (by omega)
  obtain ⟨c328, r0, r1⟩ := hc 328 (by omega)
  obtain ⟨c329, m0, m1⟩ := hc 329 (by omega)
  obtain ⟨c333, s0, s1⟩ := hc 333 (by omega)
  obtain ⟨c334, h0, h1⟩ := hc 334 (by omega)
  obtain ⟨c335, l0, l1⟩ := hc 335 (by omega)
  replace c327 := get_off c327 (by decide)
  replace c328 := get_off c328 (by decide)
  replace c329 := get_off c329 (by decide)
  replace c333 := get_off c333 (by decide)
  replace c334 := get_off c334 (by decide)
  replace c335 := get_off c335 (by decide)
  have CT := hid (fun u (g : Kept w u) => ptitle_any z x 336 cap u (by decide) (by unfold maxLen; decide) (by omega) cm hl (Nat.lt_of_lt_of_le hx g.size) (fun i hi => ⟨(g.cell (x := x.add i) (by rw [addB]; exact hx)).trans (HC.out i hi).1, (HC.out i hi).2⟩))
  have CS := hid (fun u (g : Kept w u) => pchk_ok z x 336 cap u (by decide) (by unfold maxLen; decide) (by omega) cm hl (Nat.lt_of_lt_of_le hx g.size) (fun i hi => ⟨(g.cell (x := x.add i) (by rw [addB]; exact hx)).trans (HC.out i hi).1, (HC.out i hi).2⟩) hsum)
  rw [hsum] at HP
  generalize strB (titL z) = TT at *
  generalize z.getD 327 0 = K at *
  generalize z.getD 328 0 = R at *
  generalize z.getD 329 0 = M at *
  generalize z.getD 333 0 = X at *
  generalize z.getD 334 0 = HI at *
  generalize z.getD 335 0 = LO at *
  have CK := hid (fun u (g : Kept w u) => ptraits_any K u (LY.out.kept g) k0 k1)
  rw [hk] at CK
  have CZ := hid (fun u => psize_ok R M (z.length : Int) u r0 m0 m1 hs)
  have R8 : R ≤ 8 := by unfold sizeBad at hs; omega
  have M5 : M ≤ 5 := by unfold sizeBad at hs; omega
  have CB := hid (fun u => pbanks_any R u r0 R8)
  have BR : bankOf R = mostOf R / 16384 := rfl
  rw [BR] at CB
  generalize mostOf R / 16384 = BK at *
  obtain ⟨n, hn⟩ : ∃ n : Nat, z.length = n := ⟨_, rfl⟩
  rw [hn] at hl lc CZ ⊢
  obtain ⟨PZ, hPZ⟩ : ∃ v, parseH z = v := ⟨_, rfl⟩
  rw [hPZ] at HP ⊢
  unfold traitsV at CK
  generalize kMap K = MP at *
  generalize kRam K = RM at *
  generalize kBat K = BT at *
  generalize kClk K = CL at *
  clear hc lay row hsum hs hk hn hPZ ok
  have i327 : (327 : Int) < 336 := by decide
  go_enter Tryz.func48, Tryz.ntmps48
  go_wp2_with fail
  refine (phead_any n cap x _ hl lc cm).mono ?_
  rintro e w' ⟨rfl, rfl⟩
  go_wp2_with fail
  refine (CK.out _ ((Kept.refl w).alloc _)).mono ?_
  rintro e u1 ⟨h, g1⟩
  obtain ⟨_, rfl⟩ := h.resolve_right (fun q => by cases q.1)
  clear h
  have K1 := hid (((Kept.refl w).alloc _).trans (Kept.of g1))
  have G1 := hid (grown_trans (alloc1 w _ _) g1)
  have HA := hid (has_grown g1 (has_alloc w #[.string ⟨#[]⟩, .int .u8 0, .int .i64 0, .bool false, .bool false, .bool false, .int .i64 0, .int .i64 0, .int .u8 0, .int .u16 0] 31))
  have xu : x.block < u1.heap.size := Nat.lt_of_lt_of_le hx K1.out.size
  have d328 := (K1.out.cell (x := ⟨x.block, x.off + 328, none⟩) hx).trans c328
  have d329 := (K1.out.cell (x := ⟨x.block, x.off + 329, none⟩) hx).trans c329
  clear g1
  go_wp2_with fail
  go_quiet ((go_at_call 71; exact Calls.quiet_of_same (CZ.out _)))
  go_wp2_with fail
  refine (CS.out _ ((K1.out.alloc _).drewN)).mono ?_
  rintro e u2 ⟨rfl, k2⟩
  have K2 := hid (((K1.out.alloc _).drewN).trans k2)
  have Z := k2.size
  simp at Z
  have HT := fun i => (k2.cell (x := ⟨u1.heap.size, i, none⟩) (by simp)).trans ((has_alloc u1 #[.int .u8 K, .int .i64 MP, .bool RM, .bool BT, .bool CL] 112).2 i)
  have t0 := HT 0
  have t1 := HT 1
  have t2 := HT 2
  have t3 := HT 3
  have t4 := HT 4
  simp at t0 t1 t2 t3 t4
  have xu2 : x.block < u2.heap.size := by omega
  have tu2 : u1.heap.size < u2.heap.size := by omega
  have xu3 : x.block < u2.heap.size + 1 := by omega
  have tu3 : u1.heap.size < u2.heap.size + 1 := by omega
  have e328 := (K2.out.cell (x := ⟨x.block, x.off + 328, none⟩) hx).trans c328
  have e329 := (K2.out.cell (x := ⟨x.block, x.off + 329, none⟩) hx).trans c329
  have e333 := (K2.out.cell (x := ⟨x.block, x.off + 333, none⟩) hx).trans c333
  have e334 := (K2.out.cell (x := ⟨x.block, x.off + 334, none⟩) hx).trans c334
  have e335 := (K2.out.cell (x := ⟨x.block, x.off + 335, none⟩) hx).trans c335
  have w1 : IntKind.u16.wrap HI = HI := by rw [IntKind.wrap_u16]; omega
  have w2 : IntKind.u16.wrap LO = LO := by rw [IntKind.wrap_u16]; omega
  have w3 : IntKind.u16.wrap (HI * 256) = HI * 256 := by rw [IntKind.wrap_u16]; omega
  have w4 := hi_lo HI LO h0 h1 l0 l1
  have HA2 : Has u2 w.heap.size #[.string ⟨#[]⟩, .int .u8 0, .int .i64 0, .bool false, .bool false, .bool false, .int .i64 0, .int .i64 0, .int .u8 0, .int .u16 0] := has_kept7 k2 (has_past HA.out _)
  have AF : ∀ o, u2.frozen? ⟨w.heap.size, o, none⟩ = false := fun o => by
    rw [k2.froz (x := ⟨w.heap.size, o, none⟩) (by have := HA.out.1; simp; omega)]
    exact grown_froz ((G1.out.alloc _ _)) (Nat.le_refl _) o
  have HAH := hid HA2
  have AFH := hid AF
  clear k2 HT d328 d329 HA2 AF c327 c328 c329 c333 c334 c335 CK CS CZ HC
  go_wp2_with fail
  go_region_held3 (fun w' => x.block < w'.heap.size ∧ u1.heap.size < w'.heap.size ∧ w'.cell? ⟨u1.heap.size, 0, none⟩ = some (.int .u8 K) ∧ w'.cell? ⟨u1.heap.size, 1, none⟩ = some (.int .i64 MP) ∧ w'.cell? ⟨u1.heap.size, 2, none⟩ = some (.bool RM) ∧ w'.cell? ⟨u1.heap.size, 3, none⟩ = some (.bool BT) ∧ w'.cell? ⟨u1.heap.size, 4, none⟩ = some (.bool CL) ∧ w'.cell? ⟨x.block, x.off + 328, none⟩ = some (.int .u8 R) ∧ w'.cell? ⟨x.block, x.off + 333, none⟩ = some (.int .u8 X) ∧ w'.cell? ⟨x.block, x.off + 334, none⟩ = some (.int .u8 HI) ∧ w'.cell? ⟨x.block, x.off + 335, none⟩ = some (.int .u8 LO)) (go_keep) (first | (go_at_call 75; refine (CT.out _ (by repeat (first | with_reducible exact K2.out | with_reducible refine Kept.alloc ?_ _ | with_reducible refine Kept.drew ?_ | with_reducible refine Kept.drewN ?_))).mono ?_; rintro e v1 ⟨rfl, rfl⟩) | (go_at_call 76; refine (CB.out _).mono ?_; rintro e v2 ⟨rfl, rfl⟩))
  all_goals
    have aA := HAH.out.1
    have aN : w.heap.size ≠ u2.heap.size := by omega
    have aN2 : u2.heap.size ≠ w.heap.size := by omega
    have aU : w.heap.size < u2.heap.size + 1 := by omega
    have AF := AFH.out
    have a0 := HAH.out.2 0
    have a1 := HAH.out.2 1
    have a2 := HAH.out.2 2
    have a3 := HAH.out.2 3
    have a4 := HAH.out.2 4
    have a5 := HAH.out.2 5
    have a6 := HAH.out.2 6
    have a7 := HAH.out.2 7
    have a8 := HAH.out.2 8
    have a9 := HAH.out.2 9
    simp at a0 a1 a2 a3 a4 a5 a6 a7 a8 a9
    have gz : 0 < u2.heap.size := Nat.lt_of_lt_of_le LY.out.rams.1 K2.out.size
    have gn : 0 ≠ u2.heap.size := by omega
    have rc := ram_cell (LY.out.kept K2.out).rams M m0 M5
    have m6 : M < 6 := by omega
    cases RM
  all_goals
    have HP2 := hid HP.out
    simp only [if_true, if_false, Bool.false_eq_true] at HP2
    clear HP
    go_wp2
    obtain rfl := HP2.out
    refine bodyPost_ret (v := hdV _) (by simp [results, Tryz.results48, go_sem, a0, a1, a2, a3, a4, a5, a6, a7, a8, a9, aA, aN, aN2, aU]; first | done | rfl) rfl ⟨rfl, ?_⟩
    repeat (first | with_reducible exact K2.out | with_reducible refine Kept.drew ?_ | with_reducible refine Kept.alloc ?_ _ | with_reducible refine Kept.setCell ?_ (Nat.le_refl _) _ _)
end Go.Proofs.YtfmddnekooojkaaGreatDoor
namespace Go.Proofs.YtfmddnekooojkaaGreatDoor
open Go.RowKit
set_option linter.unusedVariables false
set_option linter.unusedSimpArgs false

set_option maxRecDepth 100000 in
theorem pread_short (z : List Int) (a : Option Addr) (cap : Nat) (w : World) (h : z.length < 336) :
    Calls Tryz.prog 48 #[.slice a z.length cap] w fun e w' => e = .panicked (pan 2) ∧ Kept w w' := by
  generalize z.length = n at *
  go_enter Tryz.func48, Tryz.ntmps48
  go_wp2_with fail
  refine (phead_no n cap a _ h).mono ?_
  rintro e w' ⟨rfl, rfl⟩
  go_wp2
  exact ⟨rfl, rfl, (Kept.refl _).alloc _⟩
set_option maxRecDepth 100000 in
theorem pread_kind (z : List Int) (a : Option Addr) (cap : Nat) (w : World) (lay : Lay7 w) (row : Row w a z) (lc : z.length ≤ cap) (cm : cap ≤ maxLen) (hl : 336 ≤ z.length) (hk : kindOk (z.getD 327 0) = false) :
    Calls Tryz.prog 48 #[.slice a z.length cap] w fun e w' => e = .panicked (pan 4) ∧ Kept w w' := by
  obtain ⟨x, rfl, hx, hc⟩ := row_get row (by omega)
  have LY := hid lay
  obtain ⟨c327, k0, k1⟩ := hc 327 (by omega)
  replace c327 := get_off c327 (by decide)
  generalize z.getD 327 0 = K at *
  have CK := hid (fun u (g : Kept w u) => ptraits_any K u (LY.out.kept g) k0 k1)
  rw [hk] at CK
  obtain ⟨n, hn⟩ : ∃ n : Nat, z.length = n := ⟨_, rfl⟩
  rw [hn] at hl lc ⊢
  clear hc lay row hk hn
  have i327 : (327 : Int) < 336 := by decide
  go_enter Tryz.func48, Tryz.ntmps48
  go_wp2_with fail
  refine (phead_any n cap x _ hl lc cm).mono ?_
  rintro e w' ⟨rfl, rfl⟩
  go_wp2_with fail
  refine (CK.out _ ((Kept.refl w).alloc _)).mono ?_
  rintro e u1 ⟨h, g1⟩
  obtain ⟨_, rfl⟩ := h.resolve_left (fun q => by cases q.1)
  have K1 := hid (((Kept.refl w).alloc _).trans (Kept.of g1))
  clear h g1
  go_wp2
  exact ⟨rfl, rfl, K1.out⟩
set_option maxRecDepth 100000 in
set_option maxHeartbeats 8000000 in
theorem pread_size (z : List Int) (a : Option Addr) (cap : Nat) (w : World) (lay : Lay7 w) (row : Row w a z) (lc : z.length ≤ cap) (cm : cap ≤ maxLen) (hl : 336 ≤ z.length) (hk : kindOk (z.getD 327 0) = true) (hs : sizeBad (z.getD 328 0) (z.getD 329 0) (z.length : Int)) :
    Calls Tryz.prog 48 #[.slice a z.length cap] w fun e w' => e = .panicked (pan 5) ∧ Kept w w' := by
  obtain ⟨x, rfl, hx, hc⟩ := row_get row (by omega)
  have LY := hid lay
  obtain ⟨c327, k0, k1⟩ := hc 327 (by omega)
  obtain ⟨c328, r0, r1⟩ := hc 328 (by omega)
  obtain ⟨c329, m0, m1⟩ := hc 329 (by omega)
  replace c327 := get_off c327 (by decide)
  replace c328 := get_off c328 (by decide)
  replace c329 := get_off c329 (by decide)
  generalize z.getD 327 0 = K at *
  generalize z.getD 328 0 = R at *
  generalize z.getD 329 0 = M at *
  have CK := hid (fun u (g : Kept w u) => ptraits_any K u (LY.out.kept g) k0 k1)
  rw [hk] at CK
  have CZ := hid (fun u => psize_no R M (z.length : Int) u r0 m0 m1 hs)
  unfold traitsV at CK
  generalize kMap K = MP at *
  generalize kRam K = RM at *
  generalize kBat K = BT at *
  generalize kClk K = CL at *
  obtain ⟨n, hn⟩ : ∃ n : Nat, z.length = n := ⟨_, rfl⟩
  rw [hn] at hl lc CZ ⊢
  clear hc lay row hk hn hs
  have i327 : (327 : Int) < 336 := by decide
  go_enter Tryz.func48, Tryz.ntmps48
  go_wp2_with fail
  refine (phead_any n cap x _ hl lc cm).mono ?_
  rintro e w' ⟨rfl, rfl⟩
  go_wp2_with fail
  refine (CK.out _ ((Kept.refl w).alloc _)).mono ?_
  rintro e u1 ⟨h, g1⟩
  obtain ⟨_, rfl⟩ := h.resolve_right (fun q => by cases q.1)
  have K1 := hid (((Kept.refl w).alloc _).trans (Kept.of g1))
  have xu : x.block < u1.heap.size := Nat.lt_of_lt_of_le hx K1.out.size
  have xu3 : x.block < u1.heap.size + 1 := by omega
  have d328 := (K1.out.cell (x := ⟨x.block, x.off + 328, none⟩) hx).trans c328
  have d329 := (K1.out.cell (x := ⟨x.block, x.off + 329, none⟩) hx).trans c329
  clear h g1 c327 c328 c329
  go_wp2_with fail
  refine wp_region_held_drew (S := (fun w' => x.block < w'.heap.size ∧ w'.cell? ⟨x.block, x.off + 328, none⟩ = some (.int .u8 R) ∧ w'.cell? ⟨x.block, x.off + 329, none⟩ = some (.int .u8 M))) (by kernel_rfl) (by go_keep) (fun hHeld => ?_)
  refine wpAnyH_take (i := 0) (v := ?_) rfl (by kernel_rfl) (by kernel_rfl) (by kernel_rfl) (fun _ _ _ h => h) (Or.inl ⟨by rfl, ?_⟩) (by assumption) ?_
  rotate_left
  · intro w hSw
    (try dsimp only at hSw)
    go_simp
    try with_reducible rfl
  simp only [Act.put, List.setIfInBounds_toArray, List.set_cons_zero, List.set_cons_succ]
  refine wpAnyH_take (i := 1) (v := ?_) rfl (by kernel_rfl) (by kernel_rfl) (by kernel_rfl) (fun _ _ _ h => h) (Or.inl ⟨by rfl, ?_⟩) (by assumption) ?_
  rotate_left
  · intro w hSw
    (try dsimp only at hSw)
    go_simp
    try with_reducible rfl
  simp only [Act.put, List.setIfInBounds_toArray, List.set_cons_zero, List.set_cons_succ]
  refine wpAnyH_take (i := 2) (v := ?_) rfl (by kernel_rfl) (by kernel_rfl) (by kernel_rfl) (fun _ _ _ h => h) (Or.inl ⟨by rfl, ?_⟩) (by assumption) ?_
  rotate_left
  · intro w hSw
    (try dsimp only at hSw)
    go_simp
    try with_reducible rfl
  simp only [Act.put, List.setIfInBounds_toArray, List.set_cons_zero, List.set_cons_succ]
  refine wpAnyH_take (i := 3) (v := ?_) rfl (by kernel_rfl) (by kernel_rfl) (by kernel_rfl) (fun _ _ _ h => h) (Or.inl ⟨by rfl, ?_⟩) (by assumption) ?_
  rotate_left
  · intro w hSw
    (try dsimp only at hSw)
    go_simp
    try with_reducible rfl
  simp only [Act.put, List.setIfInBounds_toArray, List.set_cons_zero, List.set_cons_succ]
  refine wpAnyH_take (i := 4) (v := ?_) rfl (by kernel_rfl) (by kernel_rfl) (by kernel_rfl) (fun _ _ _ h => h) (Or.inl ⟨by rfl, ?_⟩) (by assumption) ?_
  rotate_left
  · intro w hSw
    (try dsimp only at hSw)
    go_simp
    try with_reducible rfl
  simp only [Act.put, List.setIfInBounds_toArray, List.set_cons_zero, List.set_cons_succ]
  refine wpAnyH_take (i := 5) (v := ?_) rfl (by kernel_rfl) (by kernel_rfl) (by kernel_rfl) (fun _ _ _ h => h) (Or.inl ⟨by rfl, ?_⟩) (by assumption) ?_
  rotate_left
  · intro w hSw
    (try dsimp only at hSw)
    go_simp
    try with_reducible rfl
  simp only [Act.put, List.setIfInBounds_toArray, List.set_cons_zero, List.set_cons_succ]
  refine wpAnyH_take (i := 6) (v := ?_) rfl (by kernel_rfl) (by kernel_rfl) (by kernel_rfl) (fun _ _ _ h => h) (Or.inl ⟨by rfl, ?_⟩) (by assumption) ?_
  rotate_left
  · intro w hSw
    (try dsimp only at hSw)
    go_simp
    try with_reducible rfl
  simp only [Act.put, List.setIfInBounds_toArray, List.set_cons_zero, List.set_cons_succ]
  refine wpAnyH_take (i := 7) (v := ?_) rfl (by kernel_rfl) (by kernel_rfl) (by kernel_rfl) (fun _ _ _ h => h) (Or.inl ⟨by rfl, ?_⟩) (by assumption) ?_
  rotate_left
  · intro w hSw
    (try dsimp only at hSw)
    go_simp
    try with_reducible rfl
  simp only [Act.put, List.setIfInBounds_toArray, List.set_cons_zero, List.set_cons_succ]
  refine wpAnyH_ready (rs := [8]) (by kernel_rfl) (by simp) ?_
  refine AllReadyH.cons rfl (fun K hK => ?_) AllReadyH.nil
  go_simp
  refine (CZ.out _).mono ?_
  rintro e v1 ⟨rfl, rfl⟩
  exact ⟨rfl, rfl, (K1.out.alloc _).drew⟩
set_option maxRecDepth 100000 in
set_option maxHeartbeats 8000000 in
theorem pread_sum (z : List Int) (a : Option Addr) (cap : Nat) (w : World) (lay : Lay7 w) (row : Row w a z) (lc : z.length ≤ cap) (cm : cap ≤ maxLen) (hl : 336 ≤ z.length) (hk : kindOk (z.getD 327 0) = true) (hs : ¬ sizeBad (z.getD 328 0) (z.getD 329 0) (z.length : Int)) (hsum : sumOf z ≠ z.getD 333 0) :
    Calls Tryz.prog 48 #[.slice a z.length cap] w fun e w' => e = .panicked (pan 3) ∧ Kept w w' := by
  obtain ⟨x, rfl, hx, hc⟩ := row_get row (by omega)
  have LY := hid lay
  have HC := hid (fun i (hi : i < 336) => hc i (by omega))
  have CS := hid (fun u (g : Kept w u) => pchk_no z x 336 cap u (by decide) (by unfold maxLen; decide) (by omega) cm hl (Nat.lt_of_lt_of_le hx g.size) (fun i hi => ⟨(g.cell (x := x.add i) (by rw [addB]; exact hx)).trans (HC.out i hi).1, (HC.out i hi).2⟩) hsum)
  obtain ⟨c327, k0, k1⟩ := hc 327 (by omega)
  obtain ⟨c328, r0, r1⟩ := hc 328 (by omega)
  obtain ⟨c329, m0, m1⟩ := hc 329 (by omega)
  replace c327 := get_off c327 (by decide)
  replace c328 := get_off c328 (by decide)
  replace c329 := get_off c329 (by decide)
  generalize z.getD 327 0 = K at *
  generalize z.getD 328 0 = R at *
  generalize z.getD 329 0 = M at *
  have CK := hid (fun u (g : Kept w u) => ptraits_any K u (LY.out.kept g) k0 k1)
  rw [hk] at CK
  have CZ := hid (fun u => psize_ok R M (z.length : Int) u r0 m0 m1 hs)
  unfold traitsV at CK
  generalize kMap K = MP at *
  generalize kRam K = RM at *
  generalize kBat K = BT at *
  generalize kClk K = CL at *
  obtain ⟨n, hn⟩ : ∃ n : Nat, z.length = n := ⟨_, rfl⟩
  rw [hn] at hl lc CZ ⊢
  clear hc lay row hk hn hs hsum HC
  have i327 : (327 : Int) < 336 := by decide
  go_enter Tryz.func48, Tryz.ntmps48
  go_wp2_with fail
  refine (phead_any n cap x _ hl lc cm).mono ?_
  rintro e w' ⟨rfl, rfl⟩
  go_wp2_with fail
  refine (CK.out _ ((Kept.refl w).alloc _)).mono ?_
  rintro e u1 ⟨h, g1⟩
  obtain ⟨_, rfl⟩ := h.resolve_right (fun q => by cases q.1)
  have K1 := hid (((Kept.refl w).alloc _).trans (Kept.of g1))
  have xu : x.block < u1.heap.size := Nat.lt_of_lt_of_le hx K1.out.size
  have xu3 : x.block < u1.heap.size + 1 := by omega
  have d328 := (K1.out.cell (x := ⟨x.block, x.off + 328, none⟩) hx).trans c328
  have d329 := (K1.out.cell (x := ⟨x.block, x.off + 329, none⟩) hx).trans c329
  clear h g1 c327 c328 c329
  go_wp2_with fail
  go_quiet ((go_at_call 71; exact Calls.quiet_of_same (CZ.out _)))
  go_wp2_with fail
  refine (CS.out _ ((K1.out.alloc _).drewN)).mono ?_
  rintro e u2 ⟨rfl, k2⟩
  have K2 := hid (((K1.out.alloc _).drewN).trans k2)
  clear k2
  go_wp2
  exact ⟨rfl, rfl, K2.out⟩
theorem pread_any (z : List Int) (a : Option Addr) (cap : Nat) (w : World) (lay : Lay7 w) (row : Row w a z) (lc : z.length ≤ cap) (cm : cap ≤ maxLen) :
    Calls Tryz.prog 48 #[.slice a z.length cap] w fun e w' => ((parseE z = 0 ∧ e = .returned (hdV (parseH z))) ∨ (parseE z ≠ 0 ∧ e = .panicked (pan (parseE z)))) ∧ Kept w w' := by
  by_cases h1 : z.length < 336
  · have E : parseE z = 2 := by unfold parseE; rw [if_pos h1]
    exact (pread_short z a cap w h1).mono fun e w' ⟨he, hk⟩ => ⟨.inr ⟨by rw [E]; decide, by rw [E]; exact he⟩, hk⟩
  by_cases h2 : kindOk (z.getD 327 0) = false
  · have E : parseE z = 4 := by unfold parseE; rw [if_neg h1, if_pos h2]
    exact (pread_kind z a cap w lay row lc cm (by omega) h2).mono fun e w' ⟨he, hk⟩ => ⟨.inr ⟨by rw [E]; decide, by rw [E]; exact he⟩, hk⟩
  by_cases h3 : sizeBad (z.getD 328 0) (z.getD 329 0) (z.length : Int)
  · have E : parseE z = 5 := by unfold parseE; rw [if_neg h1, if_neg h2, if_pos (show _ ∨ _ ∨ _ from h3)]
    exact (pread_size z a cap w lay row lc cm (by omega) (by simpa using h2) h3).mono fun e w' ⟨he, hk⟩ => ⟨.inr ⟨by rw [E]; decide, by rw [E]; exact he⟩, hk⟩
  by_cases h4 : sumOf z ≠ z.getD 333 0
  · have E : parseE z = 3 := by unfold parseE; rw [if_neg h1, if_neg h2, if_neg (show ¬ (_ ∨ _ ∨ _) from h3), if_pos h4]
    exact (pread_sum z a cap w lay row lc cm (by omega) (by simpa using h2) h3 h4).mono fun e w' ⟨he, hk⟩ => ⟨.inr ⟨by rw [E]; decide, by rw [E]; exact he⟩, hk⟩
  · have E : parseE z = 0 := by unfold parseE; rw [if_neg h1, if_neg h2, if_neg (show ¬ (_ ∨ _ ∨ _) from h3), if_neg h4]
    exact (pread_ok z a cap w lay row lc cm E).mono fun e w' ⟨he, hk⟩ => ⟨.inl ⟨E, he⟩, hk⟩
end Go.Proofs.YtfmddnekooojkaaGreatDoor
