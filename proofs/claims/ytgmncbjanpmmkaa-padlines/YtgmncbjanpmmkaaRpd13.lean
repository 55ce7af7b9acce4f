/- What the document's answers of layer 13 come to. -/
import Derived.Test.YtgmncbjanpmmkaaPd13
import Derived.Test.YtgmncbjanpmmkaaRef
import Derived.Test.YtgmncbjanpmmkaaK8
import Derived.Test.YtgmncbjanpmmkaaBk
import Derived.Test.YtgmncbjanpmmkaaChecked
import Derived.Handy
import Derived.Deep.RegionHeld3
import Derived.BigQuiet
namespace Go.Proofs.Ytgmncbjanpmmkaa
open Go.RowKit
set_option linter.unusedVariables false
set_option linter.unusedSimpArgs false

abbrev pdV (p : Pd) : Value := .agg #[.int .u8 p.sel, .int .u8 p.last]
set_option maxRecDepth 100000 in
set_option maxHeartbeats 4000000 in
theorem rlow13 (p : Pd) (keys : Int) (k : Nat) (w : World) (I : PdIn p) (k0 : 0 ≤ keys) (k1 : keys ≤ 255) (hk : k < 4) : Calls Try.prog 18 #[pdV p, .int .u8 keys, .int .i64 (k : Int)] w fun e w' => e = .returned (.bool (lowB (bitOf p.sel 4) (bitOf p.sel 5) keys k)) ∧ Kept w w' := by
  have B4 := hid (fun u => rbit_any p.sel 4 u I.s0 I.s1)
  have B5 := hid (fun u => rbit_any p.sel 5 u I.s0 I.s1)
  have BK := hid (fun u => rbit_any keys k u k0 k1)
  have BL := hid (fun u => rbit_any keys (4 + (k : Int)) u k0 k1)
  unfold lowB
  obtain ⟨ps, pl⟩ := p
  simp only at *
  generalize bitOf keys (k : Int) = x at *
  generalize bitOf keys (4 + (k : Int)) = y at *
  generalize bitOf ps 4 = b4 at *
  generalize bitOf ps 5 = b5 at *
  have e1 : IntKind.i64.wrap (4 + (k : Int)) = 4 + (k : Int) := by rw [IntKind.wrap_i64]; omega
  clear I
  cases b4 <;> cases b5 <;> cases x <;> cases y
  · go_enter Try.func18, Try.ntmps18
    go_wp2_with fail
    refine (B4.out _).mono ?_
    rintro e u0 ⟨rfl, rfl⟩
    go_wp2_with fail
    refine (BK.out _).mono ?_
    rintro e u1 ⟨rfl, rfl⟩
    go_wp2_with fail
    refine (B5.out _).mono ?_
    rintro e u2 ⟨rfl, rfl⟩
    go_wp2_with fail
    refine (BL.out _).mono ?_
    rintro e u3 ⟨rfl, rfl⟩
    go_wp2
    go_ret
    exact ⟨rfl, (Kept.refl w).alloc _⟩
  · go_enter Try.func18, Try.ntmps18
    go_wp2_with fail
    refine (B4.out _).mono ?_
    rintro e u0 ⟨rfl, rfl⟩
    go_wp2_with fail
    refine (BK.out _).mono ?_
    rintro e u1 ⟨rfl, rfl⟩
    go_wp2_with fail
    refine (B5.out _).mono ?_
    rintro e u2 ⟨rfl, rfl⟩
    go_wp2_with fail
    refine (BL.out _).mono ?_
    rintro e u3 ⟨rfl, rfl⟩
    go_wp2
    go_ret
    exact ⟨rfl, (Kept.refl w).alloc _⟩
  · go_enter Try.func18, Try.ntmps18
    go_wp2_with fail
    refine (B4.out _).mono ?_
    rintro e u0 ⟨rfl, rfl⟩
    go_wp2_with fail
    refine (BK.out _).mono ?_
    rintro e u1 ⟨rfl, rfl⟩
    go_wp2_with fail
    refine (B5.out _).mono ?_
    rintro e u2 ⟨rfl, rfl⟩
    go_wp2_with fail
    refine (BL.out _).mono ?_
    rintro e u3 ⟨rfl, rfl⟩
    go_wp2
    go_ret
    exact ⟨rfl, (Kept.refl w).alloc _⟩
  · go_enter Try.func18, Try.ntmps18
    go_wp2_with fail
    refine (B4.out _).mono ?_
    rintro e u0 ⟨rfl, rfl⟩
    go_wp2_with fail
    refine (BK.out _).mono ?_
    rintro e u1 ⟨rfl, rfl⟩
    go_wp2_with fail
    refine (B5.out _).mono ?_
    rintro e u2 ⟨rfl, rfl⟩
    go_wp2_with fail
    refine (BL.out _).mono ?_
    rintro e u3 ⟨rfl, rfl⟩
    go_wp2
    go_ret
    exact ⟨rfl, (Kept.refl w).alloc _⟩
  · go_enter Try.func18, Try.ntmps18
    go_wp2_with fail
    refine (B4.out _).mono ?_
    rintro e u0 ⟨rfl, rfl⟩
    go_wp2_with fail
    refine (BK.out _).mono ?_
    rintro e u1 ⟨rfl, rfl⟩
    go_wp2_with fail
    refine (B5.out _).mono ?_
    rintro e u2 ⟨rfl, rfl⟩
    go_wp2
    go_ret
    exact ⟨rfl, (Kept.refl w).alloc _⟩
  · go_enter Try.func18, Try.ntmps18
    go_wp2_with fail
    refine (B4.out _).mono ?_
    rintro e u0 ⟨rfl, rfl⟩
    go_wp2_with fail
    refine (BK.out _).mono ?_
    rintro e u1 ⟨rfl, rfl⟩
    go_wp2_with fail
    refine (B5.out _).mono ?_
    rintro e u2 ⟨rfl, rfl⟩
    go_wp2
    go_ret
    exact ⟨rfl, (Kept.refl w).alloc _⟩
  · go_enter Try.func18, Try.ntmps18
    go_wp2_with fail
    refine (B4.out _).mono ?_
    rintro e u0 ⟨rfl, rfl⟩
    go_wp2_with fail
    refine (BK.out _).mono ?_
    rintro e u1 ⟨rfl, rfl⟩
    go_wp2_with fail
    refine (B5.out _).mono ?_
    rintro e u2 ⟨rfl, rfl⟩
    go_wp2
    go_ret
    exact ⟨rfl, (Kept.refl w).alloc _⟩
  · go_enter Try.func18, Try.ntmps18
    go_wp2_with fail
    refine (B4.out _).mono ?_
    rintro e u0 ⟨rfl, rfl⟩
    go_wp2_with fail
    refine (BK.out _).mono ?_
    rintro e u1 ⟨rfl, rfl⟩
    go_wp2_with fail
    refine (B5.out _).mono ?_
    rintro e u2 ⟨rfl, rfl⟩
    go_wp2
    go_ret
    exact ⟨rfl, (Kept.refl w).alloc _⟩
  · go_enter Try.func18, Try.ntmps18
    go_wp2_with fail
    refine (B4.out _).mono ?_
    rintro e u0 ⟨rfl, rfl⟩
    go_wp2_with fail
    refine (B5.out _).mono ?_
    rintro e u1 ⟨rfl, rfl⟩
    go_wp2_with fail
    refine (BL.out _).mono ?_
    rintro e u2 ⟨rfl, rfl⟩
    go_wp2
    go_ret
    exact ⟨rfl, (Kept.refl w).alloc _⟩
  · go_enter Try.func18, Try.ntmps18
    go_wp2_with fail
    refine (B4.out _).mono ?_
    rintro e u0 ⟨rfl, rfl⟩
    go_wp2_with fail
    refine (B5.out _).mono ?_
    rintro e u1 ⟨rfl, rfl⟩
    go_wp2_with fail
    refine (BL.out _).mono ?_
    rintro e u2 ⟨rfl, rfl⟩
    go_wp2
    go_ret
    exact ⟨rfl, (Kept.refl w).alloc _⟩
  · go_enter Try.func18, Try.ntmps18
    go_wp2_with fail
    refine (B4.out _).mono ?_
    rintro e u0 ⟨rfl, rfl⟩
    go_wp2_with fail
    refine (B5.out _).mono ?_
    rintro e u1 ⟨rfl, rfl⟩
    go_wp2_with fail
    refine (BL.out _).mono ?_
    rintro e u2 ⟨rfl, rfl⟩
    go_wp2
    go_ret
    exact ⟨rfl, (Kept.refl w).alloc _⟩
  · go_enter Try.func18, Try.ntmps18
    go_wp2_with fail
    refine (B4.out _).mono ?_
    rintro e u0 ⟨rfl, rfl⟩
    go_wp2_with fail
    refine (B5.out _).mono ?_
    rintro e u1 ⟨rfl, rfl⟩
    go_wp2_with fail
    refine (BL.out _).mono ?_
    rintro e u2 ⟨rfl, rfl⟩
    go_wp2
    go_ret
    exact ⟨rfl, (Kept.refl w).alloc _⟩
  · go_enter Try.func18, Try.ntmps18
    go_wp2_with fail
    refine (B4.out _).mono ?_
    rintro e u0 ⟨rfl, rfl⟩
    go_wp2_with fail
    refine (B5.out _).mono ?_
    rintro e u1 ⟨rfl, rfl⟩
    go_wp2
    go_ret
    exact ⟨rfl, (Kept.refl w).alloc _⟩
  · go_enter Try.func18, Try.ntmps18
    go_wp2_with fail
    refine (B4.out _).mono ?_
    rintro e u0 ⟨rfl, rfl⟩
    go_wp2_with fail
    refine (B5.out _).mono ?_
    rintro e u1 ⟨rfl, rfl⟩
    go_wp2
    go_ret
    exact ⟨rfl, (Kept.refl w).alloc _⟩
  · go_enter Try.func18, Try.ntmps18
    go_wp2_with fail
    refine (B4.out _).mono ?_
    rintro e u0 ⟨rfl, rfl⟩
    go_wp2_with fail
    refine (B5.out _).mono ?_
    rintro e u1 ⟨rfl, rfl⟩
    go_wp2
    go_ret
    exact ⟨rfl, (Kept.refl w).alloc _⟩
  · go_enter Try.func18, Try.ntmps18
    go_wp2_with fail
    refine (B4.out _).mono ?_
    rintro e u0 ⟨rfl, rfl⟩
    go_wp2_with fail
    refine (B5.out _).mono ?_
    rintro e u1 ⟨rfl, rfl⟩
    go_wp2
    go_ret
    exact ⟨rfl, (Kept.refl w).alloc _⟩
set_option maxRecDepth 100000 in
set_option maxHeartbeats 4000000 in
theorem rlines13 (p : Pd) (keys : Int) (w : World) (I : PdIn p) (k0 : 0 ≤ keys) (k1 : keys ≤ 255) : Calls Try.prog 10 #[pdV p, .int .u8 keys] w fun e w' => e = .returned (.int .u8 (linesP p.sel keys)) ∧ Kept w w' := by
  have HL := hid (fun k u hk => rlow13 p keys k u I k0 k1 hk)
  unfold linesP linesB
  obtain ⟨ps, pl⟩ := p
  simp only at *
  generalize bitOf ps 4 = b4 at *
  generalize bitOf ps 5 = b5 at *
  clear I
  have P0 := hid (blk_new w [.int .u8 ps, .int .u8 pl] 23)
  go_enter Try.func10, Try.ntmps10
  go_wp2_with fail
  go_loopw [5, 6] (fun v i wr => ∃ j : Nat, j ≤ 4 ∧ v = .int .u8 (lineTo b4 b5 keys j) ∧ i = .int .i64 (j : Int) ∧ Blk wr w.heap.size 23 [.int .u8 ps, .int .u8 pl] ∧ Kept w wr) (fun _ i _ => 4 - (intOf i).toNat)
  case atStart => exact ⟨0, Nat.zero_le _, rfl, rfl, P0.out, (Kept.refl w).alloc _⟩
  case round =>
    obtain ⟨j, hj, rfl, rfl, hb, hk⟩ := hrel
    have PB := hid hb
    have KK := hid hk
    have cb := blk_cell hb
    have zb := blk_lt hb
    clear hb hk P0
    by_cases hlt : j < 4
    · have g1 : decide ((j : Int) < 4) = true := decide_eq_true (by omega)
      have e1 : IntKind.i64.wrap ((j : Int) + 1) = (j : Int) + 1 := by rw [IntKind.wrap_i64]; omega
      have PU := hid (fun on u => rput_any (lineTo b4 b5 keys j) j on u (line_bd b4 b5 keys j).1 (line_bd b4 b5 keys j).2)
      have NX := hid (show putOf (lineTo b4 b5 keys j) j (!lowB b4 b5 keys j) = lineTo b4 b5 keys (j + 1) from rfl)
      have LO := hid (fun u => HL.out j u hlt)
      generalize lowB b4 b5 keys j = q at *
      generalize lineTo b4 b5 keys j = lv at *
      go_wp2_with fail
      refine (LO.out _).mono ?_
      rintro e u1 ⟨rfl, k1⟩
      have Q1 := hid (blk_kept k1 PB.out)
      have K1 := hid (KK.out.trans k1)
      clear k1 PB KK cb zb
      go_wp2_with fail
      refine (PU.out _ _).mono ?_
      rintro e u2 ⟨rfl, rfl⟩
      go_wp2_with fail
      go_roundw
      case rel => exact ⟨j + 1, by omega, by first | (rw [NX.out]; done) | (rw [NX.out]; rfl), by first | go_num | rfl, Q1.out, K1.out⟩
      case measure => first | omega | (simp; omega) | (simp [intOf]; omega)
    · have je : j = 4 := by omega
      subst je
      go_wp2
      go_ret
      exact ⟨rfl, KK.out⟩
set_option maxRecDepth 100000 in
set_option maxHeartbeats 4000000 in
theorem rread13 (p : Pd) (keys : Int) (w : World) (I : PdIn p) (k0 : 0 ≤ keys) (k1 : keys ≤ 255) : Calls Try.prog 12 #[pdV p, .int .u8 keys] w fun e w' => e = .returned (.int .u8 (readP p keys)) ∧ Kept w w' := by
  have HL := hid (fun u => rlines13 p keys u I k0 k1)
  obtain ⟨n0, n1⟩ := lines_in p.sel keys k0 k1
  unfold readP
  obtain ⟨ps, pl⟩ := p
  have s0 := I.s0
  have s1 := I.s1
  have l0 := I.l0
  have l1 := I.l1
  simp only at s0 s1 l0 l1
  simp only at *
  generalize linesP ps keys = n at *
  have e0 : IntKind.u8.wrap (ps / 16) = ps / 16 := by rw [IntKind.wrap_u8]; omega
  have e1 : Int.tdiv ps 16 = ps / 16 := Int.tdiv_eq_ediv_of_nonneg s0
  have e2 : Int.tmod (ps / 16) 4 = ps / 16 % 4 := Int.tmod_eq_emod_of_nonneg (by omega)
  have e3 : IntKind.u8.wrap (ps / 16 % 4 * 16) = ps / 16 % 4 * 16 := by rw [IntKind.wrap_u8]; omega
  have e4 : IntKind.u8.wrap (192 + ps / 16 % 4 * 16) = 192 + ps / 16 % 4 * 16 := by rw [IntKind.wrap_u8]; omega
  have e5 : IntKind.u8.wrap (192 + ps / 16 % 4 * 16 + n) = 192 + ps / 16 % 4 * 16 + n := by rw [IntKind.wrap_u8]; omega
  clear I
  have P0 := hid (blk_new w [.int .u8 ps, .int .u8 pl] 23)
  go_enter Try.func12, Try.ntmps12
  go_wp2_with fail
  go_region_held3 (fun w' => w'.cell? ⟨w.heap.size, 0, none⟩ = some (.int .u8 ps) ∧ w'.cell? ⟨w.heap.size, 1, none⟩ = some (.int .u8 pl)) (go_keep) ((refine (HL.out _).mono ?_; rintro e v1 ⟨rfl, q1⟩; have c2 := blk_cell (blk_kept q1 (blk_drew P0.out)); have KZ := hid (((Kept.refl w).alloc (.cells ([.int .u8 ps, .int .u8 pl] : List Value).toArray 23)).drew.trans q1)))
  all_goals
    go_wp2
    go_ret
    exact ⟨by first | rfl | (show Ending.returned (.int .u8 (IntKind.u8.wrap (IntKind.u8.wrap (192 + IntKind.u8.wrap ((IntKind.u8.wrap (ps / 16)).tmod 4 * 16)) + n))) = _; rw [e0, e2, e3, e4, e5]), KZ.out⟩
set_option maxRecDepth 100000 in
set_option maxHeartbeats 4000000 in
theorem rwrite13 (p : Pd) (v : Int) (w : World) (I : PdIn p) (v0 : 0 ≤ v) (v1 : v ≤ 255) : Calls Try.prog 14 #[pdV p, .int .u8 v] w fun e w' => e = .returned (pdV (writeP p v)) ∧ Kept w w' := by
  obtain ⟨ps, pl⟩ := p
  have s0 := I.s0
  have s1 := I.s1
  have l0 := I.l0
  have l1 := I.l1
  simp only at s0 s1 l0 l1
  have e1 : Int.tdiv v 16 = v / 16 := Int.tdiv_eq_ediv_of_nonneg v0
  have e2 : Int.tmod (v / 16) 4 = v / 16 % 4 := Int.tmod_eq_emod_of_nonneg (by omega)
  have e3 : IntKind.u8.wrap (v / 16 % 4 * 16) = v / 16 % 4 * 16 := by rw [IntKind.wrap_u8]; omega
  clear I
  go_enter Try.func14, Try.ntmps14
  go_wp2
  exact bodyPost_ret (v := pdV ⟨v / 16 % 4 * 16, pl⟩) (by simp [results, Try.results14, go_sem]) rfl ⟨rfl, by repeat (first | with_reducible exact Kept.refl _ | with_reducible refine Kept.alloc ?_ _ | with_reducible refine Kept.drew ?_ | (with_reducible refine Kept.setCell8 ?_ ?_ _ _; rotate_left; (first | exact Nat.le_refl _ | omega | (simp; done) | (simp; omega))))⟩
set_option maxRecDepth 100000 in
set_option maxHeartbeats 4000000 in
theorem rstep13 (p : Pd) (keys : Int) (w : World) (I : PdIn p) (k0 : 0 ≤ keys) (k1 : keys ≤ 255) : Calls Try.prog 16 #[pdV p, .int .u8 keys] w fun e w' => e = .returned (.tuple #[pdV (stepP p keys), .bool (askP p keys)]) ∧ Kept w w' := by
  have HL := hid (fun u => rlines13 p keys u I k0 k1)
  obtain ⟨n0, n1⟩ := lines_in p.sel keys k0 k1
  unfold stepP askP
  obtain ⟨ps, pl⟩ := p
  have s0 := I.s0
  have s1 := I.s1
  have l0 := I.l0
  have l1 := I.l1
  simp only at s0 s1 l0 l1
  simp only at *
  generalize linesP ps keys = n at *
  unfold fellP
  clear I
  have X0 : Blk ((w.alloc (.cells ([.int .u8 ps, .int .u8 pl] : List Value).toArray 23)).alloc (.cells ([.int .u8 0, .int .u8 0] : List Value).toArray 23)) w.heap.size 23 [.int .u8 ps, .int .u8 pl] := blk_past (blk_new w _ _) _
  have X1 : Blk ((w.alloc (.cells ([.int .u8 ps, .int .u8 pl] : List Value).toArray 23)).alloc (.cells ([.int .u8 0, .int .u8 0] : List Value).toArray 23)) (w.heap.size + 1) 23 [.int .u8 0, .int .u8 0] := by have q := blk_new (w.alloc (.cells ([.int .u8 ps, .int .u8 pl] : List Value).toArray 23)) [.int .u8 0, .int .u8 0] 23; rw [World.size_alloc] at q; exact q
  have zx : ((w.alloc (.cells ([.int .u8 ps, .int .u8 pl] : List Value).toArray 23)).alloc (.cells ([.int .u8 0, .int .u8 0] : List Value).toArray 23)).heap.size = w.heap.size + 1 + 1 := by rw [World.size_alloc, World.size_alloc]
  have KX := hid (((Kept.refl w).alloc (.cells ([.int .u8 ps, .int .u8 pl] : List Value).toArray 23)).alloc (.cells ([.int .u8 0, .int .u8 0] : List Value).toArray 23))
  go_enter Try.func16, Try.ntmps16
  go_wp2_with fail
  refine (HL.out _).mono ?_
  rintro e u1 ⟨rfl, k1⟩
  have R1 := blk_kept k1 X1
  have Q1 := blk_kept k1 X0
  have K1 := hid (KX.out.trans k1)
  have c1 := blk_cell Q1
  have lt1 := blk_lt R1
  clear k1 X0 X1 KX zx
  go_wp2_with fail
  have HB := hid (fun k u => rbit_any pl k u l0 l1)
  have HN := hid (fun k u => rbit_any n k u n0 (by omega))
  go_loop [7, 8] (fun v i => ∃ j : Nat, j ≤ 4 ∧ v = .bool (fellTo pl n j) ∧ i = .int .i64 (j : Int)) (fun _ i => 4 - (intOf i).toNat)
  case atStart => exact ⟨0, Nat.zero_le _, rfl, rfl⟩
  case round =>
    obtain ⟨j, hj, rfl, rfl⟩ := hrel
    by_cases hlt : j < 4
    · have g1 : decide ((j : Int) < 4) = true := decide_eq_true (by omega)
      have e1 : IntKind.i64.wrap ((j : Int) + 1) = (j : Int) + 1 := by rw [IntKind.wrap_i64]; omega
      have NX := hid (show (fellTo pl n j || (bitOf pl j && !bitOf n j)) = fellTo pl n (j + 1) from rfl)
      have HBJ := hid (fun u => HB.out j u)
      have HNJ := hid (fun u => HN.out j u)
      generalize fellTo pl n j = fl at *
      generalize bitOf pl j = x at *
      generalize bitOf n j = y at *
      cases fl <;> cases x <;> cases y
      all_goals
        go_wp2_with fail
        refine (HBJ.out _).mono ?_
        rintro e u2 ⟨rfl, rfl⟩
        go_wp2_with fail
        refine (HNJ.out _).mono ?_
        rintro e u3 ⟨rfl, rfl⟩
        go_wp2_with fail
        go_round
        case rel => exact ⟨j + 1, by omega, by first | (rw [← NX.out]; done) | (rw [← NX.out]; rfl), by first | go_num | rfl⟩
        case measure => first | omega | (simp; omega) | (simp [intOf]; omega)
    · have je : j = 4 := by omega
      subst je
      go_wp2_with (first
      | ((with_reducible refine at_st 5 ?_); refine wl_store rfl rfl rfl rfl Q1 (by kernel_rfl) rfl (Nat.le_of_ble_eq_true rfl) (fun v6 p6 => ?_); have B6 : Blk v6 w.heap.size 23 [.int .u8 ps, .int .u8 n] := p6.blk; have z6 := p6.size; have R6 := p6.other _ _ _ (Nat.succ_ne_self _) R1; have K6 := hid (p6.kept _ K1.out (Nat.le_refl _)); clear p6; have c6 := blk_cell B6; have l6 := blk_lt R6; clear Q1 R1 K1 c1)
      | ((with_reducible refine at_st 23 ?_); refine wl_store rfl rfl rfl rfl R6 (by kernel_rfl) rfl (Nat.le_of_ble_eq_true rfl) (fun v7 p7 => ?_); have B7 : Blk v7 (w.heap.size + 1) 23 [.int .u8 ps, .int .u8 n] := p7.blk; have z7 := p7.size; have K7 := hid (p7.kept _ K6.out (Nat.le_succ _)); clear p7))
      exact bodyPost_ret (res_cell2 Try.results16 rfl B7 Try.underlying23 rfl (by kernel_rfl)) rfl ⟨rfl, K7.out⟩
end Go.Proofs.Ytgmncbjanpmmkaa
