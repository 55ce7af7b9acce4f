/- What the document's answers of layer 17 come to. -/
import Derived.Test.YtecgpdjgbdobbaaPtl17
namespace Go.Proofs.Ytecgpdjgbdobbaa
open Go.RowKit
set_option linter.unusedVariables false
set_option linter.unusedSimpArgs false

set_option maxRecDepth 100000 in
set_option maxHeartbeats 4000000 in
theorem rbit17 (v n : Int) (w : World) (v0 : 0 ≤ v) (v1 : v ≤ 255) : Calls Try.prog 77 #[.int .u8 v, .int .i64 n] w fun e w' => e = .returned (.int .u8 (bN v n)) ∧ w' = w := by
  have B := hid (fun u => rbit_any v n u v0 v1)
  unfold bN
  generalize bitOf v n = b at *
  cases b
  all_goals
    go_enter Try.func77, Try.ntmps77
    go_wp2_with fail
    refine (B.out _).mono ?_
    rintro e u1 ⟨rfl, rfl⟩
    go_wp2
    go_ret
    exact ⟨rfl, rfl⟩
set_option maxRecDepth 100000 in
set_option maxHeartbeats 4000000 in
theorem rpix17 (lo hi n : Int) (w : World) (l0 : 0 ≤ lo) (l1 : lo ≤ 255) (h0 : 0 ≤ hi) (h1 : hi ≤ 255) : Calls Try.prog 62 #[.int .u8 lo, .int .u8 hi, .int .i64 n] w fun e w' => e = .returned (.int .u8 (pixP lo hi n)) ∧ Kept w w' := by
  by_cases hn : 0 ≤ n ∧ n < 8
  · rw [pix_in lo hi n hn.1 hn.2]
    have A := hid (fun u => rbit17 hi (7 - n) u h0 h1)
    have B := hid (fun u => rbit17 lo (7 - n) u l0 l1)
    have ba := bN_bd hi (7 - n)
    have bb := bN_bd lo (7 - n)
    have g1 : decide (n < 0) = false := decide_eq_false (by omega)
    have g2 : decide (7 < n) = false := decide_eq_false (by omega)
    have e0 : IntKind.i64.wrap (7 - n) = 7 - n := by rw [IntKind.wrap_i64]; omega
    generalize bN hi (7 - n) = x at *
    generalize bN lo (7 - n) = y at *
    have e1 : IntKind.u8.wrap (2 * x) = 2 * x := by rw [IntKind.wrap_u8]; omega
    have e2 : IntKind.u8.wrap (2 * x + y) = 2 * x + y := by rw [IntKind.wrap_u8]; omega
    go_enter Try.func62, Try.ntmps62
    go_wp2_with fail
    refine (A.out _).mono ?_
    rintro e u1 ⟨rfl, rfl⟩
    go_wp2_with fail
    refine (B.out _).mono ?_
    rintro e u1 ⟨rfl, rfl⟩
    go_wp2
    go_ret
    exact ⟨rfl, Kept.refl _⟩
  · rw [pix_out lo hi n hn]
    by_cases hm : n < 0
    · have g1 : decide (n < 0) = true := decide_eq_true hm
      go_enter Try.func62, Try.ntmps62
      go_wp2
      go_ret
      exact ⟨rfl, Kept.refl w⟩
    · have g1 : decide (n < 0) = false := decide_eq_false hm
      have g2 : decide (7 < n) = true := decide_eq_true (by omega)
      go_enter Try.func62, Try.ntmps62
      go_wp2
      go_ret
      exact ⟨rfl, Kept.refl w⟩
set_option maxRecDepth 100000 in
set_option maxHeartbeats 4000000 in
theorem rplace17 (t row : Int) (s : Bool) (w : World) (t0 : 0 ≤ t) (t1 : t ≤ 255) : Calls Try.prog 61 #[.int .u8 t, .bool s, .int .i64 row] w fun e w' => e = .returned (.int .i64 (placeP t s row)) ∧ w' = w := by
  have S := hid (fun u => rsigned_any t u t0 t1)
  have sg : -128 ≤ signedOf t ∧ signedOf t ≤ 127 := by unfold signedOf; split <;> omega
  have tm : (Int.tmod row 8 < 0 ∧ Int.tmod row 8 + 8 = row % 8) ∨ (0 ≤ Int.tmod row 8 ∧ Int.tmod row 8 = row % 8) := by
    rw [Int.tmod_eq_emod]
    simp only [Int.natAbs_natCast, show (8 : Int).natAbs = 8 from rfl]
    split <;> omega
  have r8 : 0 ≤ row % 8 ∧ row % 8 ≤ 7 := by omega
  unfold placeP
  generalize signedOf t = sv at *
  generalize row % 8 = r at *
  generalize hq : Int.tmod row 8 = q at *
  have e2 : IntKind.i64.wrap (16 * sv) = 16 * sv := by rw [IntKind.wrap_i64]; omega
  have e3 : IntKind.i64.wrap (4096 + 16 * sv) = 4096 + 16 * sv := by rw [IntKind.wrap_i64]; omega
  have e4 : IntKind.i64.wrap (2 * r) = 2 * r := by rw [IntKind.wrap_i64]; omega
  have e5 : IntKind.i64.wrap (4096 + 16 * sv + 2 * r) = 4096 + 16 * sv + 2 * r := by rw [IntKind.wrap_i64]; omega
  have e6 : IntKind.i64.wrap (16 * t) = 16 * t := by rw [IntKind.wrap_i64]; omega
  have e7 : IntKind.i64.wrap (16 * t + 2 * r) = 16 * t + 2 * r := by rw [IntKind.wrap_i64]; omega
  rcases tm with ⟨n1, n2⟩ | ⟨n1, rfl⟩
  · have g1 : decide (q < 0) = true := decide_eq_true n1
    have e1 : IntKind.i64.wrap (q + 8) = r := by rw [IntKind.wrap_i64]; omega
    clear n2
    cases s
    · show Calls _ _ _ _ fun e w' => e = .returned (.int .i64 (16 * t + 2 * r)) ∧ w' = w
      go_enter Try.func61, Try.ntmps61
      go_wp2
      go_ret
      exact ⟨rfl, rfl⟩
    · show Calls _ _ _ _ fun e w' => e = .returned (.int .i64 (4096 + 16 * sv + 2 * r)) ∧ w' = w
      go_enter Try.func61, Try.ntmps61
      go_wp2_with fail
      refine (S.out _).mono ?_
      rintro e u1 ⟨rfl, rfl⟩
      go_wp2
      go_ret
      exact ⟨rfl, rfl⟩
  · have g1 : decide (q < 0) = false := decide_eq_false (by omega)
    cases s
    · show Calls _ _ _ _ fun e w' => e = .returned (.int .i64 (16 * t + 2 * q)) ∧ w' = w
      go_enter Try.func61, Try.ntmps61
      go_wp2
      go_ret
      exact ⟨rfl, rfl⟩
    · show Calls _ _ _ _ fun e w' => e = .returned (.int .i64 (4096 + 16 * sv + 2 * q)) ∧ w' = w
      go_enter Try.func61, Try.ntmps61
      go_wp2_with fail
      refine (S.out _).mono ?_
      rintro e u1 ⟨rfl, rfl⟩
      go_wp2
      go_ret
      exact ⟨rfl, rfl⟩
set_option maxRecDepth 100000 in
set_option maxHeartbeats 4000000 in
theorem rcell17 (x y : Int) (h : Bool) (w : World) (x0 : 0 ≤ x) (x1 : x ≤ 255) (y0 : 0 ≤ y) (y1 : y ≤ 255) : Calls Try.prog 74 #[.bool h, .int .u8 x, .int .u8 y] w fun e w' => e = .returned (.int .i64 (cellP h x y)) ∧ w' = w := by
  have d1 : Int.tdiv y 8 = y / 8 := Int.tdiv_eq_ediv_of_nonneg y0
  have d2 : Int.tdiv x 8 = x / 8 := Int.tdiv_eq_ediv_of_nonneg x0
  cases h
  · show Calls _ _ _ _ fun e w' => e = .returned (.int .i64 (6144 + 32 * (y / 8) + x / 8)) ∧ w' = w
    have e1 : IntKind.u8.wrap (y / 8) = y / 8 := by rw [IntKind.wrap_u8]; omega
    have e2 : IntKind.u8.wrap (x / 8) = x / 8 := by rw [IntKind.wrap_u8]; omega
    have e3 : IntKind.i64.wrap (y / 8) = y / 8 := by rw [IntKind.wrap_i64]; omega
    have e4 : IntKind.i64.wrap (x / 8) = x / 8 := by rw [IntKind.wrap_i64]; omega
    have e5 : IntKind.i64.wrap (32 * (y / 8)) = 32 * (y / 8) := by rw [IntKind.wrap_i64]; omega
    have e6 : IntKind.i64.wrap (6144 + 32 * (y / 8)) = 6144 + 32 * (y / 8) := by rw [IntKind.wrap_i64]; omega
    have e7 : IntKind.i64.wrap (6144 + 32 * (y / 8) + x / 8) = 6144 + 32 * (y / 8) + x / 8 := by rw [IntKind.wrap_i64]; omega
    go_enter Try.func74, Try.ntmps74
    go_wp2
    go_ret
    exact ⟨rfl, rfl⟩
  · show Calls _ _ _ _ fun e w' => e = .returned (.int .i64 (7168 + 32 * (y / 8) + x / 8)) ∧ w' = w
    have e1 : IntKind.u8.wrap (y / 8) = y / 8 := by rw [IntKind.wrap_u8]; omega
    have e2 : IntKind.u8.wrap (x / 8) = x / 8 := by rw [IntKind.wrap_u8]; omega
    have e3 : IntKind.i64.wrap (y / 8) = y / 8 := by rw [IntKind.wrap_i64]; omega
    have e4 : IntKind.i64.wrap (x / 8) = x / 8 := by rw [IntKind.wrap_i64]; omega
    have e5 : IntKind.i64.wrap (32 * (y / 8)) = 32 * (y / 8) := by rw [IntKind.wrap_i64]; omega
    have e6 : IntKind.i64.wrap (7168 + 32 * (y / 8)) = 7168 + 32 * (y / 8) := by rw [IntKind.wrap_i64]; omega
    have e7 : IntKind.i64.wrap (7168 + 32 * (y / 8) + x / 8) = 7168 + 32 * (y / 8) + x / 8 := by rw [IntKind.wrap_i64]; omega
    go_enter Try.func74, Try.ntmps74
    go_wp2
    go_ret
    exact ⟨rfl, rfl⟩
set_option maxRecDepth 100000 in
set_option maxHeartbeats 4000000 in
theorem rshade17 (q c : Int) (w : World) (q0 : 0 ≤ q) (q1 : q ≤ 255) (c0 : 0 ≤ c) (c1 : c ≤ 255) : Calls Try.prog 45 #[.int .u8 q, .int .u8 c] w fun e w' => e = .returned (.int .u8 (shadeP q c)) ∧ w' = w := by
  obtain ⟨k, hk⟩ : ∃ k : Nat, c % 4 = (k : Int) := ⟨(c % 4).toNat, by omega⟩
  have k4 : k < 4 := by omega
  have cm : Int.tmod c 4 = (k : Int) := by rw [Int.tmod_eq_emod_of_nonneg c0]; exact hk
  have pe : shadeP q c = q / 4 ^ k % 4 := by unfold shadeP; rw [hk]; rfl
  rw [pe]
  clear pe hk
  go_enter Try.func45, Try.ntmps45
  go_wp2
  go_loop [5, 6] (fun v i => ∃ j : Nat, j ≤ k ∧ v = .int .i64 (q / 4 ^ j) ∧ i = .int .u8 (j : Int)) (fun _ i => 4 - (intOf i).toNat)
  case atStart => exact ⟨0, Nat.zero_le _, by rw [Int.pow_zero, Int.ediv_one], rfl⟩
  case round =>
    obtain ⟨j, hj, rfl, rfl⟩ := hrel
    have vb : 0 ≤ q / 4 ^ j ∧ q / 4 ^ j ≤ 255 := quart_bd q j q0 q1
    have NX : Hid (q / 4 ^ j / 4 = q / 4 ^ (j + 1)) := quart_next q j
    by_cases hlt : j < k
    · have g1 : decide ((j : Int) < (k : Int)) = true := decide_eq_true (by omega)
      have e1 : IntKind.u8.wrap ((j : Int) + 1) = (j : Int) + 1 := by rw [IntKind.wrap_u8]; omega
      generalize q / 4 ^ j = v at *
      have e2 : Int.tdiv v 4 = v / 4 := Int.tdiv_eq_ediv_of_nonneg vb.1
      have e3 : IntKind.i64.wrap (v / 4) = v / 4 := by rw [IntKind.wrap_i64]; omega
      go_wp2
      go_round
      case rel => exact ⟨j + 1, by omega, by rw [← NX.out], by first | go_num | rfl⟩
      case measure => first | omega | (simp; omega) | (simp [intOf]; omega)
    · have je : j = k := by omega
      subst je
      have g1 : decide ((j : Int) < (j : Int)) = false := decide_eq_false (by omega)
      generalize hv : q / 4 ^ j = v at *
      have HV := hid hv
      clear hv
      have e2 : Int.tmod v 4 = v % 4 := Int.tmod_eq_emod_of_nonneg vb.1
      have e3 : IntKind.u8.wrap (v % 4) = v % 4 := by rw [IntKind.wrap_u8]; omega
      go_wp2
      go_ret
      exact ⟨by rw [HV.out]; rfl, rfl⟩
set_option maxRecDepth 100000 in
set_option maxHeartbeats 4000000 in
theorem rat17 (a : Option Addr) (cap : Nat) (z : List Int) (i : Int) (w : World) (hr : Row w a z) : Calls Try.prog 63 #[.slice a z.length cap, .int .i64 i] w fun e w' => e = .returned (.int .u8 (atP z i)) ∧ Kept w w' := by
  have hl := hr.1
  by_cases h1 : i < 0
  · rw [at_out z i (by omega)]
    have g1 : decide (i < 0) = true := decide_eq_true h1
    go_enter Try.func63, Try.ntmps63
    go_wp2
    go_ret
    exact ⟨rfl, Kept.refl w⟩
  · by_cases h2 : (z.length : Int) ≤ i
    · rw [at_out z i (by omega)]
      have g1 : decide (i < 0) = false := decide_eq_false h1
      have g2 : decide ((z.length : Int) ≤ i) = true := decide_eq_true h2
      go_enter Try.func63, Try.ntmps63
      go_wp2
      go_ret
      exact ⟨rfl, Kept.refl w⟩
    · obtain ⟨j, rfl⟩ := Int.eq_ofNat_of_zero_le (by omega : 0 ≤ i)
      have hj : j < z.length := by omega
      rw [at_in z j hj]
      obtain ⟨x, rfl, hx, hc⟩ := row_get hr (by omega)
      obtain ⟨c1, c2⟩ := hc j hj
      have cv : x.block < w.heap.size := hx
      generalize z.getD j 0 = v at *
      clear hc hr
      have g1 : decide ((j : Int) < 0) = false := decide_eq_false (by omega)
      have g2 : decide ((z.length : Int) ≤ (j : Int)) = false := decide_eq_false (by omega)
      have g3 : decide (z.length ≤ j) = false := decide_eq_false (by omega)
      go_enter Try.func63, Try.ntmps63
      go_wp2
      go_ret
      exact ⟨rfl, Kept.refl w⟩
end Go.Proofs.Ytecgpdjgbdobbaa
