/- Layer 18's laws of windows, lines, texts and shades. -/
import Derived.Test.YtecgpdjgbdobbaaSw18
namespace Go.Proofs.Ytecgpdjgbdobbaa
open Go.RowKit
set_option linter.unusedVariables false
set_option linter.unusedSimpArgs false

theorem conv_nil18 (w : World) : (convert 22 9 (.slice none 0 0)).run Try.prog w = .ok (.string (strB [])) w := by kernel_rfl
theorem conv_sl18 {w : World} {a : Option Addr} {cap : Nat} {z : List Int} (h : Sl w a cap z) : (convert 22 9 (.slice a z.length cap)).run Try.prog w = .ok (.string (strB z)) w := by
  cases a with
  | none =>
    obtain rfl : cap = 0 := h.nil rfl
    have z0 := h.len
    obtain rfl : z = [] := List.eq_nil_of_length_eq_zero (by omega)
    exact conv_nil18 w
  | some x => exact conv_cells w x cap z (row_news10 h.row)
theorem conv_line18 {w : World} {b : Nat} {t : TypeId} {v : Vd} {y win : Int} (h : Blk w b t (colsL (dotL v y win))) : (convert 22 9 (.slice (some ⟨b, 0, none⟩) 160 160)).run Try.prog w = .ok (.string (strB (lineP v y win))) w := by
  have q := conv_cells w ⟨b, 0, none⟩ 160 (lineP v y win) (fun j u hu => by rw [ownB_add, blk_cell h, cols_line]; exact hu)
  rw [line_len] at q
  exact q
theorem and3_bits : ∀ c : Fin 256, (bits .and .u8 (c.val : Int) 3 == 0) = true → bitOf (c.val : Int) 0 = false ∧ bitOf (c.val : Int) 1 = false := by decide +kernel
theorem dot_none {v : Vd} (y win : Int) (x : Nat) (h0 : bitOf v.ctl 0 = false) (h1 : bitOf v.ctl 1 = false) : dotL v y win x = 0 := by
  unfold dotL objsP
  rw [h1, if_neg (by simp)]
  unfold dotP
  rw [h0]
  rfl
set_option maxRecDepth 100000 in
set_option maxHeartbeats 4000000 in
theorem windows18 (v : Vd) (y : Int) (w : World) (hv : VdIn w v) (y0 : 0 ≤ y) (y1 : y ≤ 255) : Calls Try.prog 3 #[vdV v, .int .u8 y] w fun e w' => e = .returned (.bool true) ∧ Kept w w' := by
  have S := hid (fun u => kshown18 u)
  have A := hid (fun u k => pwin18 v y u (vdIn_kept k hv) y0 y1)
  have B := hid (fun u k => rwin18 v y u (vdIn_kept k hv) y0 y1)
  generalize winP v y = q at *
  clear hv
  obtain ⟨vn, hvn⟩ : ∃ n, v.vz.length = n := ⟨_, rfl⟩
  obtain ⟨on, hon⟩ : ∃ n, v.oz.length = n := ⟨_, rfl⟩
  have VV : vdV v = .agg #[.int .u8 v.ctl, .int .u8 v.scy, .int .u8 v.scx, .int .u8 v.wy, .int .u8 v.wx, .int .u8 v.bgp, .int .u8 v.o0, .int .u8 v.o1, .slice v.va vn v.vc, .slice v.oa on v.oc] := by unfold vdV; rw [hvn, hon]
  rw [VV] at A B ⊢
  clear hvn hon VV
  have K1 : Hid (Kept w (w.alloc (.cells #[.int .u8 v.ctl, .int .u8 v.scy, .int .u8 v.scx, .int .u8 v.wy, .int .u8 v.wx, .int .u8 v.bgp, .int .u8 v.o0, .int .u8 v.o1, .slice v.va vn v.vc, .slice v.oa on v.oc] 24))) := (Kept.refl w).alloc _
  have B1 : Hid (Blk (w.alloc (.cells #[.int .u8 v.ctl, .int .u8 v.scy, .int .u8 v.scx, .int .u8 v.wy, .int .u8 v.wx, .int .u8 v.bgp, .int .u8 v.o0, .int .u8 v.o1, .slice v.va vn v.vc, .slice v.oa on v.oc] 24)) w.heap.size 24 [.int .u8 v.ctl, .int .u8 v.scy, .int .u8 v.scx, .int .u8 v.wy, .int .u8 v.wx, .int .u8 v.bgp, .int .u8 v.o0, .int .u8 v.o1, .slice v.va vn v.vc, .slice v.oa on v.oc]) := blk_new w _ _
  go_enter Try.func3, Try.ntmps3
  obtain ⟨d0, d1, d2, d3, d4, d5, d6, d7, d8, d9⟩ := ten18 B1.out
  go_wp2_with fail
  refine (S.out _).mono ?_
  rintro e u1 ⟨rfl, k1⟩
  have K2 := hid (K1.out.trans k1)
  have B2 := hid (blk_kept k1 B1.out)
  clear k1 K1 B1 d0 d1 d2 d3 d4 d5 d6 d7 d8 d9
  obtain ⟨d0, d1, d2, d3, d4, d5, d6, d7, d8, d9⟩ := ten18 B2.out
  go_wp2_with fail
  clear d0 d1 d2 d3 d4 d5 d6 d7 d8 d9
  obtain ⟨d0, d1, d2, d3, d4, d5, d6, d7, d8, d9⟩ := ten18 B2.out
  refine wp_region_held_drew (S := (fun w' => w'.cell? ⟨w.heap.size, 0, none⟩ = some (.int .u8 v.ctl) ∧ w'.cell? ⟨w.heap.size, 1, none⟩ = some (.int .u8 v.scy) ∧ w'.cell? ⟨w.heap.size, 2, none⟩ = some (.int .u8 v.scx) ∧ w'.cell? ⟨w.heap.size, 3, none⟩ = some (.int .u8 v.wy) ∧ w'.cell? ⟨w.heap.size, 4, none⟩ = some (.int .u8 v.wx) ∧ w'.cell? ⟨w.heap.size, 5, none⟩ = some (.int .u8 v.bgp) ∧ w'.cell? ⟨w.heap.size, 6, none⟩ = some (.int .u8 v.o0) ∧ w'.cell? ⟨w.heap.size, 7, none⟩ = some (.int .u8 v.o1) ∧ w'.cell? ⟨w.heap.size, 8, none⟩ = some (.slice v.va vn v.vc) ∧ w'.cell? ⟨w.heap.size, 9, none⟩ = some (.slice v.oa on v.oc))) (by kernel_rfl) (by go_keep) (fun hHeld => ?_)
  clear d0 d1 d2 d3 d4 d5 d6 d7 d8 d9
  have K3 := hid K2.out.drew
  have B3 := hid (blk_drew B2.out)
  clear K2 B2
  obtain ⟨d0, d1, d2, d3, d4, d5, d6, d7, d8, d9⟩ := ten18 B3.out
  refine wpAnyH_take (i := 0) (v := ?_) rfl (by kernel_rfl) (by kernel_rfl) (by kernel_rfl) (fun _ _ _ h => h) (Or.inl ⟨by rfl, ?_⟩) (by assumption) ?_
  rotate_left
  · intro w hSw
    (try dsimp only at hSw)
    obtain ⟨s0, s1, s2, s3, s4, s5, s6, s7, s8, s9⟩ := hSw
    go_simp
    try with_reducible rfl
  simp only [Act.put, List.getElem_toArray, List.getElem_cons_succ, List.getElem_cons_zero, List.setIfInBounds_toArray, List.set_cons_zero, List.set_cons_succ]
  refine wpAnyH_take (i := 1) (v := ?_) rfl (by kernel_rfl) (by kernel_rfl) (by kernel_rfl) (fun _ _ _ h => h) (Or.inl ⟨by rfl, ?_⟩) (by assumption) ?_
  rotate_left
  · intro w hSw
    (try dsimp only at hSw)
    obtain ⟨s0, s1, s2, s3, s4, s5, s6, s7, s8, s9⟩ := hSw
    go_simp
    try with_reducible rfl
  simp only [Act.put, List.getElem_toArray, List.getElem_cons_succ, List.getElem_cons_zero, List.setIfInBounds_toArray, List.set_cons_zero, List.set_cons_succ]
  refine wpAnyH_take (i := 2) (v := ?_) rfl (by kernel_rfl) (by kernel_rfl) (by kernel_rfl) (fun _ _ _ h => h) (Or.inl ⟨by rfl, ?_⟩) (by assumption) ?_
  rotate_left
  · intro w hSw
    (try dsimp only at hSw)
    obtain ⟨s0, s1, s2, s3, s4, s5, s6, s7, s8, s9⟩ := hSw
    go_simp
    try with_reducible rfl
  simp only [Act.put, List.getElem_toArray, List.getElem_cons_succ, List.getElem_cons_zero, List.setIfInBounds_toArray, List.set_cons_zero, List.set_cons_succ]
  refine wpAnyH_take (i := 3) (v := ?_) rfl (by kernel_rfl) (by kernel_rfl) (by kernel_rfl) (fun _ _ _ h => h) (Or.inl ⟨by rfl, ?_⟩) (by assumption) ?_
  rotate_left
  · intro w hSw
    (try dsimp only at hSw)
    obtain ⟨s0, s1, s2, s3, s4, s5, s6, s7, s8, s9⟩ := hSw
    go_simp
    try with_reducible rfl
  simp only [Act.put, List.getElem_toArray, List.getElem_cons_succ, List.getElem_cons_zero, List.setIfInBounds_toArray, List.set_cons_zero, List.set_cons_succ]
  refine wpAnyH_take (i := 5) (v := ?_) rfl (by kernel_rfl) (by kernel_rfl) (by kernel_rfl) (fun _ _ _ h => h) (Or.inl ⟨by rfl, ?_⟩) (by assumption) ?_
  rotate_left
  · intro w hSw
    (try dsimp only at hSw)
    obtain ⟨s0, s1, s2, s3, s4, s5, s6, s7, s8, s9⟩ := hSw
    go_simp
    try with_reducible rfl
  simp only [Act.put, List.getElem_toArray, List.getElem_cons_succ, List.getElem_cons_zero, List.setIfInBounds_toArray, List.set_cons_zero, List.set_cons_succ]
  refine wpAnyH_take (i := 6) (v := ?_) rfl (by kernel_rfl) (by kernel_rfl) (by kernel_rfl) (fun _ _ _ h => h) (Or.inl ⟨by rfl, ?_⟩) (by assumption) ?_
  rotate_left
  · intro w hSw
    (try dsimp only at hSw)
    obtain ⟨s0, s1, s2, s3, s4, s5, s6, s7, s8, s9⟩ := hSw
    go_simp
    try with_reducible rfl
  simp only [Act.put, List.getElem_toArray, List.getElem_cons_succ, List.getElem_cons_zero, List.setIfInBounds_toArray, List.set_cons_zero, List.set_cons_succ]
  refine wpAnyH_ready (rs := [4]) (by kernel_rfl) (by simp) ?_
  refine AllReadyH.cons rfl (fun K hK => ?_) AllReadyH.nil
  go_simp
  refine (A.out _ K3.out).mono ?_
  rintro e u2 ⟨rfl, k1⟩
  have K4 := hid (K3.out.trans k1)
  have B4 := hid (blk_kept k1 B3.out)
  clear k1 K3 B3 d0 d1 d2 d3 d4 d5 d6 d7 d8 d9
  obtain ⟨d0, d1, d2, d3, d4, d5, d6, d7, d8, d9⟩ := ten18 B4.out
  refine hK.out _ _ (by go_keep) (fun hHeld => ?_)
  clear hK K
  try simp only [Act.put, List.getElem_toArray, List.getElem_cons_succ, List.getElem_cons_zero, List.setIfInBounds_toArray, List.set_cons_zero, List.set_cons_succ]
  refine wpAnyH_ready (rs := [7]) (by kernel_rfl) (by simp) ?_
  refine AllReadyH.cons rfl (fun K hK => ?_) AllReadyH.nil
  go_simp
  refine (B.out _ K4.out).mono ?_
  rintro e u3 ⟨rfl, k1⟩
  have K5 := hid (K4.out.trans k1)
  have B5 := hid (blk_kept k1 B4.out)
  clear k1 K4 B4 d0 d1 d2 d3 d4 d5 d6 d7 d8 d9
  obtain ⟨d0, d1, d2, d3, d4, d5, d6, d7, d8, d9⟩ := ten18 B5.out
  refine hK.out _ _ (by go_keep) (fun hHeld => ?_)
  clear hK K
  try simp only [Act.put, List.getElem_toArray, List.getElem_cons_succ, List.getElem_cons_zero, List.setIfInBounds_toArray, List.set_cons_zero, List.set_cons_succ]
  refine wpAnyH_take (i := 8) (v := ?_) rfl (by kernel_rfl) (by kernel_rfl) (by kernel_rfl) (fun _ _ _ h => h) (Or.inl ⟨by rfl, ?_⟩) (by assumption) ?_
  rotate_left
  · intro w hSw
    (try dsimp only at hSw)
    obtain ⟨s0, s1, s2, s3, s4, s5, s6, s7, s8, s9⟩ := hSw
    go_simp
    try with_reducible rfl
  simp only [Act.put, List.getElem_toArray, List.getElem_cons_succ, List.getElem_cons_zero, List.setIfInBounds_toArray, List.set_cons_zero, List.set_cons_succ]
  refine wpAnyH_take (i := 9) (v := ?_) rfl (by kernel_rfl) (by kernel_rfl) (by kernel_rfl) (fun _ _ _ h => h) (Or.inl ⟨by rfl, ?_⟩) (by assumption) ?_
  rotate_left
  · intro w hSw
    (try dsimp only at hSw)
    obtain ⟨s0, s1, s2, s3, s4, s5, s6, s7, s8, s9⟩ := hSw
    go_simp
    try with_reducible rfl
  simp only [Act.put, List.getElem_toArray, List.getElem_cons_succ, List.getElem_cons_zero, List.setIfInBounds_toArray, List.set_cons_zero, List.set_cons_succ]
  refine wpAnyH_take (i := 10) (v := ?_) rfl (by kernel_rfl) (by kernel_rfl) (by kernel_rfl) (fun _ _ _ h => h) (Or.inl ⟨by rfl, ?_⟩) (by assumption) ?_
  rotate_left
  · intro w hSw
    (try dsimp only at hSw)
    obtain ⟨s0, s1, s2, s3, s4, s5, s6, s7, s8, s9⟩ := hSw
    go_simp
    try with_reducible rfl
  simp only [Act.put, List.getElem_toArray, List.getElem_cons_succ, List.getElem_cons_zero, List.setIfInBounds_toArray, List.set_cons_zero, List.set_cons_succ]
  refine wpAnyH_done (by kernel_rfl) ?_ _
  clear hHeld
  go_wp2
  go_ret
  exact ⟨rfl, K5.out⟩
set_option maxRecDepth 100000 in
set_option maxHeartbeats 4000000 in
theorem lines18 (v : Vd) (y win : Int) (w : World) (hv : VdIn w v) (y0 : 0 ≤ y) (y1 : y ≤ 255) (w0 : 0 ≤ win) (w1 : win ≤ 255) : Calls Try.prog 4 #[vdV v, .int .u8 y, .int .u8 win] w fun e w' => e = .returned (.bool true) ∧ Kept w w' := by
  have S := hid (fun u => kshown18 u)
  have A := hid (fun u k => pline18 v y win u (vdIn_kept k hv) y0 y1 w0 w1)
  have B := hid (fun u k => rline18 v y win u (vdIn_kept k hv) y0 y1 w0 w1)
  clear hv
  obtain ⟨vn, hvn⟩ : ∃ n, v.vz.length = n := ⟨_, rfl⟩
  obtain ⟨on, hon⟩ : ∃ n, v.oz.length = n := ⟨_, rfl⟩
  have VV : vdV v = .agg #[.int .u8 v.ctl, .int .u8 v.scy, .int .u8 v.scx, .int .u8 v.wy, .int .u8 v.wx, .int .u8 v.bgp, .int .u8 v.o0, .int .u8 v.o1, .slice v.va vn v.vc, .slice v.oa on v.oc] := by unfold vdV; rw [hvn, hon]
  rw [VV] at A B ⊢
  clear hvn hon VV
  have K1 : Hid (Kept w (w.alloc (.cells #[.int .u8 v.ctl, .int .u8 v.scy, .int .u8 v.scx, .int .u8 v.wy, .int .u8 v.wx, .int .u8 v.bgp, .int .u8 v.o0, .int .u8 v.o1, .slice v.va vn v.vc, .slice v.oa on v.oc] 24))) := (Kept.refl w).alloc _
  have B1 : Hid (Blk (w.alloc (.cells #[.int .u8 v.ctl, .int .u8 v.scy, .int .u8 v.scx, .int .u8 v.wy, .int .u8 v.wx, .int .u8 v.bgp, .int .u8 v.o0, .int .u8 v.o1, .slice v.va vn v.vc, .slice v.oa on v.oc] 24)) w.heap.size 24 [.int .u8 v.ctl, .int .u8 v.scy, .int .u8 v.scx, .int .u8 v.wy, .int .u8 v.wx, .int .u8 v.bgp, .int .u8 v.o0, .int .u8 v.o1, .slice v.va vn v.vc, .slice v.oa on v.oc]) := blk_new w _ _
  go_enter Try.func4, Try.ntmps4
  obtain ⟨d0, d1, d2, d3, d4, d5, d6, d7, d8, d9⟩ := ten18 B1.out
  go_wp2_with fail
  refine (S.out _).mono ?_
  rintro e u1 ⟨rfl, k1⟩
  have K2 := hid (K1.out.trans k1)
  have B2 := hid (blk_kept k1 B1.out)
  clear k1 K1 B1 d0 d1 d2 d3 d4 d5 d6 d7 d8 d9
  obtain ⟨d0, d1, d2, d3, d4, d5, d6, d7, d8, d9⟩ := ten18 B2.out
  go_wp2_with fail
  refine (A.out _ K2.out).mono ?_
  rintro e u2 ⟨⟨b, rfl, z2, x2⟩, k1⟩
  have X2 := hid x2
  clear x2 z2
  have K3 := hid (K2.out.trans k1)
  have B3 := hid (blk_kept k1 B2.out)
  clear k1 K2 B2 d0 d1 d2 d3 d4 d5 d6 d7 d8 d9
  obtain ⟨d0, d1, d2, d3, d4, d5, d6, d7, d8, d9⟩ := ten18 B3.out
  go_wp2_with fail
  refine (B.out _ K3.out).mono ?_
  rintro e u3 ⟨⟨a, cap, rfl, n3, s3⟩, k1⟩
  have K4 := hid (K3.out.trans k1)
  have CA := conv_line18 (blk_kept k1 X2.out)
  have CB := conv_sl18 s3
  rw [line_len] at CB
  clear k1 s3 n3 X2 K3 B3 d0 d1 d2 d3 d4 d5 d6 d7 d8 d9
  generalize strB (lineP v y win) = sv at *
  generalize nxP v y win = nv at *
  go_wp2
  go_ret
  exact ⟨rfl, K4.out⟩
set_option maxRecDepth 100000 in
set_option maxHeartbeats 4000000 in
theorem texts18 (a : Option Addr) (cap : Nat) (z : List Int) (w : World) (hr : Row w a z) (hl : z.length ≤ 140737488355328) : Calls Try.prog 6 #[.slice a z.length cap] w fun e w' => e = .returned (.bool true) ∧ Kept w w' := by
  have S := hid (fun u => kshown18 u)
  have A := hid (fun u k => ptext18 a cap z u (row_kept k hr) hl)
  have B := hid (fun u k => rtext18 a cap z u (row_kept k hr) hl)
  clear hr
  generalize strB (digL z) = sv at *
  generalize z.length = n at *
  go_enter Try.func6, Try.ntmps6
  go_wp2_with fail
  refine (S.out _).mono ?_
  rintro e u1 ⟨rfl, k1⟩
  have K1 := hid k1
  clear k1
  go_wp2_with fail
  refine (A.out _ K1.out).mono ?_
  rintro e u2 ⟨rfl, k2⟩
  have K2 := hid (K1.out.trans k2)
  clear k2
  go_wp2_with fail
  refine (B.out _ K2.out).mono ?_
  rintro e u3 ⟨rfl, k3⟩
  have K3 := hid (K2.out.trans k3)
  clear k3
  go_wp2
  go_ret
  exact ⟨rfl, K3.out⟩
set_option maxRecDepth 100000 in
set_option maxHeartbeats 4000000 in
theorem shades18 (v : Vd) (y win : Int) (w : World) (hv : VdIn w v) (y0 : 0 ≤ y) (y1 : y ≤ 255) (w0 : 0 ≤ win) (w1 : win ≤ 255) : Calls Try.prog 7 #[vdV v, .int .u8 y, .int .u8 win] w fun e w' => e = .returned (.bool true) ∧ Kept w w' := by
  have S := hid (fun u => kshown18 u)
  have A := hid (fun u k => pline18 v y win u (vdIn_kept k hv) y0 y1 w0 w1)
  have WI := hid (fun u k => pwin18 v y u (vdIn_kept k hv) y0 y1)
  have NO : Hid ((bits .and .u8 v.ctl 3 == 0) = true → ∀ x, dotL v y win x = 0) := fun q x => by
    have c0 := hv.c0
    have c1 := hv.c1
    have e := fin8 (p := fun c => (bits .and .u8 c 3 == 0) = true → bitOf c 0 = false ∧ bitOf c 1 = false) and3_bits v.ctl c0 c1 q
    exact dot_none y win x e.1 e.2
  have ew : IntKind.u8.wrap (win + 1) = (win + 1) % 256 := by rw [IntKind.wrap_u8]
  clear hv
  obtain ⟨vn, hvn⟩ : ∃ n, v.vz.length = n := ⟨_, rfl⟩
  obtain ⟨on, hon⟩ : ∃ n, v.oz.length = n := ⟨_, rfl⟩
  have VV : vdV v = .agg #[.int .u8 v.ctl, .int .u8 v.scy, .int .u8 v.scx, .int .u8 v.wy, .int .u8 v.wx, .int .u8 v.bgp, .int .u8 v.o0, .int .u8 v.o1, .slice v.va vn v.vc, .slice v.oa on v.oc] := by unfold vdV; rw [hvn, hon]
  rw [VV] at A WI ⊢
  clear hvn hon VV
  have K1 : Hid (Kept w (w.alloc (.cells #[.int .u8 v.ctl, .int .u8 v.scy, .int .u8 v.scx, .int .u8 v.wy, .int .u8 v.wx, .int .u8 v.bgp, .int .u8 v.o0, .int .u8 v.o1, .slice v.va vn v.vc, .slice v.oa on v.oc] 24))) := (Kept.refl w).alloc _
  have B1 : Hid (Blk (w.alloc (.cells #[.int .u8 v.ctl, .int .u8 v.scy, .int .u8 v.scx, .int .u8 v.wy, .int .u8 v.wx, .int .u8 v.bgp, .int .u8 v.o0, .int .u8 v.o1, .slice v.va vn v.vc, .slice v.oa on v.oc] 24)) w.heap.size 24 [.int .u8 v.ctl, .int .u8 v.scy, .int .u8 v.scx, .int .u8 v.wy, .int .u8 v.wx, .int .u8 v.bgp, .int .u8 v.o0, .int .u8 v.o1, .slice v.va vn v.vc, .slice v.oa on v.oc]) := blk_new w _ _
  cases qw : winP v y
  · have NXW : nxP v y win = win := by unfold nxP; rw [qw]; rfl
    rw [qw] at WI
    rw [NXW] at A
    clear qw NXW
    go_enter Try.func7, Try.ntmps7
    obtain ⟨d0, d1, d2, d3, d4, d5, d6, d7, d8, d9⟩ := ten18 B1.out
    go_wp2_with fail
    refine (S.out _).mono ?_
    rintro e u1 ⟨rfl, k1⟩
    have K2 := hid (K1.out.trans k1)
    have B2 := hid (blk_kept k1 B1.out)
    clear k1 K1 B1 d0 d1 d2 d3 d4 d5 d6 d7 d8 d9
    obtain ⟨d0, d1, d2, d3, d4, d5, d6, d7, d8, d9⟩ := ten18 B2.out
    go_wp2_with fail
    refine (A.out _ K2.out).mono ?_
    rintro e u2 ⟨⟨b, rfl, z2, x2⟩, k1⟩
    have X2 := hid x2
    clear x2 z2
    have K3 := hid (K2.out.trans k1)
    have B3 := hid (blk_kept k1 B2.out)
    clear k1 K2 B2 d0 d1 d2 d3 d4 d5 d6 d7 d8 d9
    obtain ⟨d0, d1, d2, d3, d4, d5, d6, d7, d8, d9⟩ := ten18 B3.out
    go_wp2_with fail
    refine (WI.out _ K3.out).mono ?_
    rintro e u3 ⟨rfl, k1⟩
    have K4 := hid (K3.out.trans k1)
    have B4 := hid (blk_kept k1 B3.out)
    have X4 := hid (blk_kept k1 X2.out)
    clear k1 K3 B3 X2 d0 d1 d2 d3 d4 d5 d6 d7 d8 d9
    go_wp2_with fail
    go_loopw [11] (fun s11 wr => ∃ j : Nat, j ≤ 160 ∧ s11 = .int .i64 (j : Int) ∧ wr = u3) (fun s11 _ => 160 - (intOf s11).toNat)
    case atStart => exact ⟨0, Nat.zero_le _, rfl, rfl⟩
    case round =>
      obtain ⟨j, hj, rfl, rfl⟩ := hrel
      by_cases hlt : j < 160
      · have g1 : decide ((j : Int) < 160) = true := decide_eq_true (by omega)
        have g2 : (j : Int) < 160 := by omega
        have e1 : IntKind.i64.wrap ((j : Int) + 1) = (j : Int) + 1 := by rw [IntKind.wrap_i64]; omega
        have db := dot_bd v (objsP v y) (j : Int) y win
        have dc : wr.cell? ⟨b, j, none⟩ = some (.int .u8 (dotL v y win j)) := (blk_cell X4.out j).trans (cols_at _ hlt)
        have DZ := hid (fun q => NO.out q j)
        change 0 ≤ dotL v y win j ∧ dotL v y win j ≤ 3 at db
        obtain ⟨d, hd⟩ : ∃ d, dotL v y win j = d := ⟨_, rfl⟩
        rw [hd] at db dc DZ
        obtain ⟨dl, dh⟩ := db
        have g3 : ¬ (3 : Int) < d := by omega
        have g4 : decide ((3 : Int) < d) = false := decide_eq_false g3
        have cc : wr.cell? ⟨w.heap.size, 0, none⟩ = some (.int .u8 v.ctl) := blk_cell B4.out 0
        clear hd
        by_cases hz : (bits .and .u8 v.ctl 3 == 0) = true
        · have d0 : d = 0 := DZ.out hz
          subst d0
          have hz2 : bits .and .u8 v.ctl 3 = 0 := by simpa using hz
          go_wp2
          go_roundw
          case rel => exact ⟨j + 1, by omega, by first | go_num | rfl, by first | trivial | rfl⟩
          case measure => first | omega | (simp; omega) | (simp [intOf]; omega)
        · have hz2 : ¬ bits .and .u8 v.ctl 3 = 0 := by simpa using hz
          go_wp2
          go_roundw
          case rel => exact ⟨j + 1, by omega, by first | go_num | rfl, by first | trivial | rfl⟩
          case measure => first | omega | (simp; omega) | (simp [intOf]; omega)
      · have je : j = 160 := by omega
        subst je
        have g1 : decide (((160 : Nat) : Int) < 160) = false := by decide
        go_wp2
        go_ret
        exact ⟨rfl, K4.out⟩
  · have NXW : nxP v y win = (win + 1) % 256 := by unfold nxP; rw [qw]; rfl
    rw [qw] at WI
    rw [NXW] at A
    clear qw NXW
    go_enter Try.func7, Try.ntmps7
    obtain ⟨d0, d1, d2, d3, d4, d5, d6, d7, d8, d9⟩ := ten18 B1.out
    go_wp2_with fail
    refine (S.out _).mono ?_
    rintro e u1 ⟨rfl, k1⟩
    have K2 := hid (K1.out.trans k1)
    have B2 := hid (blk_kept k1 B1.out)
    clear k1 K1 B1 d0 d1 d2 d3 d4 d5 d6 d7 d8 d9
    obtain ⟨d0, d1, d2, d3, d4, d5, d6, d7, d8, d9⟩ := ten18 B2.out
    go_wp2_with fail
    refine (A.out _ K2.out).mono ?_
    rintro e u2 ⟨⟨b, rfl, z2, x2⟩, k1⟩
    have X2 := hid x2
    clear x2 z2
    have K3 := hid (K2.out.trans k1)
    have B3 := hid (blk_kept k1 B2.out)
    clear k1 K2 B2 d0 d1 d2 d3 d4 d5 d6 d7 d8 d9
    obtain ⟨d0, d1, d2, d3, d4, d5, d6, d7, d8, d9⟩ := ten18 B3.out
    go_wp2_with fail
    refine (WI.out _ K3.out).mono ?_
    rintro e u3 ⟨rfl, k1⟩
    have K4 := hid (K3.out.trans k1)
    have B4 := hid (blk_kept k1 B3.out)
    have X4 := hid (blk_kept k1 X2.out)
    clear k1 K3 B3 X2 d0 d1 d2 d3 d4 d5 d6 d7 d8 d9
    go_wp2_with fail
    go_loopw [11] (fun s11 wr => ∃ j : Nat, j ≤ 160 ∧ s11 = .int .i64 (j : Int) ∧ wr = u3) (fun s11 _ => 160 - (intOf s11).toNat)
    case atStart => exact ⟨0, Nat.zero_le _, rfl, rfl⟩
    case round =>
      obtain ⟨j, hj, rfl, rfl⟩ := hrel
      by_cases hlt : j < 160
      · have g1 : decide ((j : Int) < 160) = true := decide_eq_true (by omega)
        have g2 : (j : Int) < 160 := by omega
        have e1 : IntKind.i64.wrap ((j : Int) + 1) = (j : Int) + 1 := by rw [IntKind.wrap_i64]; omega
        have db := dot_bd v (objsP v y) (j : Int) y win
        have dc : wr.cell? ⟨b, j, none⟩ = some (.int .u8 (dotL v y win j)) := (blk_cell X4.out j).trans (cols_at _ hlt)
        have DZ := hid (fun q => NO.out q j)
        change 0 ≤ dotL v y win j ∧ dotL v y win j ≤ 3 at db
        obtain ⟨d, hd⟩ : ∃ d, dotL v y win j = d := ⟨_, rfl⟩
        rw [hd] at db dc DZ
        obtain ⟨dl, dh⟩ := db
        have g3 : ¬ (3 : Int) < d := by omega
        have g4 : decide ((3 : Int) < d) = false := decide_eq_false g3
        have cc : wr.cell? ⟨w.heap.size, 0, none⟩ = some (.int .u8 v.ctl) := blk_cell B4.out 0
        clear hd
        by_cases hz : (bits .and .u8 v.ctl 3 == 0) = true
        · have d0 : d = 0 := DZ.out hz
          subst d0
          have hz2 : bits .and .u8 v.ctl 3 = 0 := by simpa using hz
          go_wp2
          go_roundw
          case rel => exact ⟨j + 1, by omega, by first | go_num | rfl, by first | trivial | rfl⟩
          case measure => first | omega | (simp; omega) | (simp [intOf]; omega)
        · have hz2 : ¬ bits .and .u8 v.ctl 3 = 0 := by simpa using hz
          go_wp2
          go_roundw
          case rel => exact ⟨j + 1, by omega, by first | go_num | rfl, by first | trivial | rfl⟩
          case measure => first | omega | (simp; omega) | (simp [intOf]; omega)
      · have je : j = 160 := by omega
        subst je
        have g1 : decide (((160 : Nat) : Int) < 160) = false := by decide
        go_wp2
        go_ret
        exact ⟨rfl, K4.out⟩
end Go.Proofs.Ytecgpdjgbdobbaa
