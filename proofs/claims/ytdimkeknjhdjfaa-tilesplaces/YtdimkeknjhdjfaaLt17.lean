/- Layer 17's laws, but for that of sheets. -/
import Derived.Test.YtdimkeknjhdjfaaSw17
import Derived.Deep.RegionHeld3
namespace Go.Proofs.Ytdimkeknjhdjfaa
open Go.RowKit
set_option linter.unusedVariables false
set_option linter.unusedSimpArgs false

set_option maxRecDepth 100000 in
set_option maxHeartbeats 4000000 in
theorem pixels17 (lo hi n : Int) (w : World) (l0 : 0 ≤ lo) (l1 : lo ≤ 255) (h0 : 0 ≤ hi) (h1 : hi ≤ 255) : Calls Try.prog 3 #[.int .u8 lo, .int .u8 hi, .int .i64 n] w fun e w' => e = .returned (.bool true) ∧ Kept w w' := by
  have S := hid (fun u => kshown17 u)
  have A := hid (fun u => ppix17 lo hi n u l0 l1 h0 h1)
  have B := hid (fun u => rpix17 lo hi n u l0 l1 h0 h1)
  have C0 := fun u => prow17 lo hi u l0 l1 h0 h1
  have D0 := fun u => rrow17 lo hi u l0 l1 h0 h1
  obtain ⟨x0, x1, x2, x3, x4, x5, x6, x7, hx⟩ : ∃ x0 x1 x2 x3 x4 x5 x6 x7, rowL lo hi = [.int .u8 x0, .int .u8 x1, .int .u8 x2, .int .u8 x3, .int .u8 x4, .int .u8 x5, .int .u8 x6, .int .u8 x7] := ⟨_, _, _, _, _, _, _, _, rfl⟩
  simp only [hx] at C0 D0
  have C := hid C0
  have D := hid D0
  generalize pixP lo hi n = v at *
  have EQ : ∀ u, (Op.equalIn 10000 24 (.agg #[.int .u8 x0, .int .u8 x1, .int .u8 x2, .int .u8 x3, .int .u8 x4, .int .u8 x5, .int .u8 x6, .int .u8 x7]) (.agg #[.int .u8 x0, .int .u8 x1, .int .u8 x2, .int .u8 x3, .int .u8 x4, .int .u8 x5, .int .u8 x6, .int .u8 x7])).run Try.prog u = .ok true u := fun u => eq8_17 [x0, x1, x2, x3, x4, x5, x6, x7] rfl u
  clear C0 D0 hx
  go_enter Try.func3, Try.ntmps3
  have K0 := hid (Kept.refl w)
  go_wp2_with fail
  refine (S.out _).mono ?_
  rintro e u1 ⟨rfl, k1⟩
  have K1 := hid (K0.out.trans k1)
  clear k1 K0
  go_wp2_with fail
  refine (A.out _).mono ?_
  rintro e u2 ⟨rfl, k2⟩
  have K2 := hid (K1.out.trans k2)
  clear k2 K1
  go_wp2_with fail
  refine (B.out _).mono ?_
  rintro e u3 ⟨rfl, k3⟩
  have K3 := hid (K2.out.trans k3)
  clear k3 K2
  go_wp2_with fail
  refine (C.out _).mono ?_
  rintro e u4 ⟨rfl, k4⟩
  have K4 := hid (K3.out.trans k4)
  clear k4 K3
  go_wp2_with fail
  refine (D.out _).mono ?_
  rintro e u5 ⟨rfl, k5⟩
  have K5 := hid (K4.out.trans k5)
  clear k5 K4
  go_wp2
  go_ret
  exact ⟨rfl, K5.out⟩
set_option maxRecDepth 100000 in
set_option maxHeartbeats 4000000 in
theorem places17 (t row x y : Int) (w : World) (t0 : 0 ≤ t) (t1 : t ≤ 255) (x0 : 0 ≤ x) (x1 : x ≤ 255) (y0 : 0 ≤ y) (y1 : y ≤ 255) : Calls Try.prog 4 #[.int .u8 t, .int .i64 row, .int .u8 x, .int .u8 y] w fun e w' => e = .returned (.bool true) ∧ Kept w w' := by
  have S := hid (fun u => kshown17 u)
  have Af := hid (fun u => pplace17 t row false u t0 t1)
  have Bf := hid (fun u => rplace17 t row false u t0 t1)
  have At := hid (fun u => pplace17 t row true u t0 t1)
  have Bt := hid (fun u => rplace17 t row true u t0 t1)
  have Cf := hid (fun u => pcell17 x y false u x0 x1 y0 y1)
  have Df := hid (fun u => rcell17 x y false u x0 x1 y0 y1)
  have Ct := hid (fun u => pcell17 x y true u x0 x1 y0 y1)
  have Dt := hid (fun u => rcell17 x y true u x0 x1 y0 y1)
  generalize placeP t false row = v1 at *
  generalize placeP t true row = v2 at *
  generalize cellP false x y = v3 at *
  generalize cellP true x y = v4 at *
  go_enter Try.func4, Try.ntmps4
  have K0 := hid (Kept.refl w)
  go_wp2_with fail
  refine (S.out _).mono ?_
  rintro e u1 ⟨rfl, k1⟩
  have K1 := hid (K0.out.trans k1)
  clear k1 K0
  go_wp2_with fail
  refine (Af.out _).mono ?_
  rintro e ux ⟨rfl, rfl⟩
  go_wp2_with fail
  refine (Bf.out _).mono ?_
  rintro e ux ⟨rfl, rfl⟩
  go_wp2_with fail
  refine (At.out _).mono ?_
  rintro e ux ⟨rfl, rfl⟩
  go_wp2_with fail
  refine (Bt.out _).mono ?_
  rintro e ux ⟨rfl, rfl⟩
  go_wp2_with fail
  refine (Cf.out _).mono ?_
  rintro e ux ⟨rfl, rfl⟩
  go_wp2_with fail
  refine (Df.out _).mono ?_
  rintro e ux ⟨rfl, rfl⟩
  go_wp2_with fail
  refine (Ct.out _).mono ?_
  rintro e ux ⟨rfl, rfl⟩
  go_wp2_with fail
  refine (Dt.out _).mono ?_
  rintro e ux ⟨rfl, rfl⟩
  go_wp2
  go_ret
  exact ⟨rfl, K1.out⟩
set_option maxRecDepth 100000 in
set_option maxHeartbeats 4000000 in
theorem shades17 (q c i : Int) (a : Option Addr) (cap : Nat) (z : List Int) (w : World) (q0 : 0 ≤ q) (q1 : q ≤ 255) (c0 : 0 ≤ c) (c1 : c ≤ 255) (hr : Row w a z) : Calls Try.prog 5 #[.int .u8 q, .int .u8 c, .slice a z.length cap, .int .i64 i] w fun e w' => e = .returned (.bool true) ∧ Kept w w' := by
  have S := hid (fun u => kshown17 u)
  have A := hid (fun u => pshade17 q c u q0 q1 c0 c1)
  have B := hid (fun u => rshade17 q c u q0 q1 c0 c1)
  have C := hid (fun u h => pat17 a cap z i u h)
  have D := hid (fun u h => rat17 a cap z i u h)
  have R := hid hr
  generalize shadeP q c = v1 at *
  generalize atP z i = v2 at *
  clear hr
  go_enter Try.func5, Try.ntmps5
  have K0 := hid (Kept.refl w)
  go_wp2_with fail
  refine (S.out _).mono ?_
  rintro e u1 ⟨rfl, k1⟩
  have K1 := hid (K0.out.trans k1)
  clear k1 K0
  go_wp2_with fail
  refine (A.out _).mono ?_
  rintro e ux ⟨rfl, rfl⟩
  go_wp2_with fail
  refine (B.out _).mono ?_
  rintro e ux ⟨rfl, rfl⟩
  go_wp2_with fail
  refine (C.out _ (row_kept K1.out R.out)).mono ?_
  rintro e u2 ⟨rfl, k2⟩
  have K2 := hid (K1.out.trans k2)
  clear k2 K1
  go_wp2_with fail
  refine (D.out _ (row_kept K2.out R.out)).mono ?_
  rintro e u3 ⟨rfl, k3⟩
  have K3 := hid (K2.out.trans k3)
  clear k3 K2
  go_wp2
  go_ret
  exact ⟨rfl, K3.out⟩
theorem apart_num (a b r : Int) (h0 : 0 ≤ a) (h1 : a ≤ 255) (k0 : 0 ≤ b) (k1 : b ≤ 255) (r0 : 0 ≤ r) (r1 : r ≤ 255) :
    (0 ≤ placeP a false (r % 8) ∧ placeP a false (r % 8) < 4096 ∧ placeP a false (r % 8) % 2 = 0) ∧ (2048 ≤ placeP a true (r % 8) ∧ placeP a true (r % 8) < 6144 ∧ placeP a true (r % 8) % 2 = 0) ∧
    (placeP a false (r % 8) = placeP b false (r / 8 % 8) ↔ (a = b ∧ r % 8 = r / 8 % 8)) ∧ (placeP a true (r % 8) = placeP b true (r / 8 % 8) ↔ (a = b ∧ r % 8 = r / 8 % 8)) ∧ (placeP a false (r % 8) = placeP a true (r % 8) ↔ 127 < a) := by
  unfold placeP signedOf
  simp only [Bool.false_eq_true, if_false, if_true]
  split <;> split <;> omega
set_option maxRecDepth 100000 in
set_option maxHeartbeats 4000000 in
theorem apart17 (a b r x y : Int) (w : World) (h0 : 0 ≤ a) (h1 : a ≤ 255) (k0 : 0 ≤ b) (k1 : b ≤ 255) (r0 : 0 ≤ r) (r1 : r ≤ 255) (x0 : 0 ≤ x) (x1 : x ≤ 255) (y0 : 0 ≤ y) (y1 : y ≤ 255) : Calls Try.prog 7 #[.int .u8 a, .int .u8 b, .int .u8 r, .int .u8 x, .int .u8 y] w fun e w' => e = .returned (.bool true) ∧ Kept w w' := by
  have S := hid (fun u => kshown17 u)
  obtain ⟨⟨p0, p1, p2⟩, ⟨s0, s1, s2⟩, pq, st, ps⟩ := apart_num a b r h0 h1 k0 k1 r0 r1
  have A := hid (fun u => pplace17 a (r % 8) false u h0 h1)
  have B := hid (fun u => pplace17 b (r / 8 % 8) false u k0 k1)
  have C := hid (fun u => pplace17 a (r % 8) true u h0 h1)
  have D := hid (fun u => pplace17 b (r / 8 % 8) true u k0 k1)
  have E := hid (fun u => pcell17 x y false u x0 x1 y0 y1)
  have F := hid (fun u => pcell17 x y true u x0 x1 y0 y1)
  have c0 : 6144 ≤ cellP false x y := by show 6144 ≤ 6144 + 32 * (y / 8) + x / 8; omega
  have c1 : cellP false x y < 7168 := by show 6144 + 32 * (y / 8) + x / 8 < 7168; omega
  have cd : cellP true x y - cellP false x y = 1024 := by show 7168 + 32 * (y / 8) + x / 8 - (6144 + 32 * (y / 8) + x / 8) = 1024; omega
  generalize placeP a false (r % 8) = p at *
  generalize placeP b false (r / 8 % 8) = q at *
  generalize placeP a true (r % 8) = s at *
  generalize placeP b true (r / 8 % 8) = t at *
  generalize cellP false x y = c at *
  generalize cellP true x y = d at *
  have t1 : Int.tmod r 8 = r % 8 := Int.tmod_eq_emod_of_nonneg r0
  have t2 : Int.tdiv r 8 = r / 8 := Int.tdiv_eq_ediv_of_nonneg r0
  have t3 : Int.tmod (r / 8) 8 = r / 8 % 8 := Int.tmod_eq_emod_of_nonneg (by omega)
  have t4 : IntKind.u8.wrap (r / 8) = r / 8 := by rw [IntKind.wrap_u8]; omega
  have t5 : IntKind.i64.wrap (r % 8) = r % 8 := by rw [IntKind.wrap_i64]; omega
  have t6 : IntKind.i64.wrap (r / 8 % 8) = r / 8 % 8 := by rw [IntKind.wrap_i64]; omega
  have t7 : Int.tmod p 2 = 0 := by rw [Int.tmod_eq_emod_of_nonneg p0]; exact p2
  have t8 : Int.tmod s 2 = 0 := by rw [Int.tmod_eq_emod_of_nonneg (by omega)]; exact s2
  have t9 : IntKind.i64.wrap (d - c) = 1024 := by rw [cd, IntKind.wrap_i64]; decide
  have d1 : decide (0 ≤ p) = true := decide_eq_true p0
  have d2 : decide (p < 4096) = true := decide_eq_true p1
  have d3 : decide (2048 ≤ s) = true := decide_eq_true s0
  have d4 : decide (s < 6144) = true := decide_eq_true s1
  have d5 : decide (6144 ≤ c) = true := decide_eq_true c0
  have d6 : decide (c < 7168) = true := decide_eq_true c1
  by_cases q1 : a = b
  · by_cases q2 : r % 8 = r / 8 % 8
    · have f1 : (a == b) = true := by simpa using q1
      have f2 : (r % 8 == r / 8 % 8) = true := by simpa using q2
      have f3 : (p == q) = true := by simpa using pq.2 ⟨q1, q2⟩
      have f4 : (s == t) = true := by simpa using st.2 ⟨q1, q2⟩
      have f5 : (p == s) = decide (127 < a) := by rw [Bool.eq_iff_iff]; simpa using ps
      clear pq st ps q1 q2 p2 s2 cd
      go_enter Try.func7, Try.ntmps7
      have K0 := hid (Kept.refl w)
      go_wp2_with fail
      refine (S.out _).mono ?_
      rintro e u1 ⟨rfl, k1⟩
      have K1 := hid (K0.out.trans k1)
      clear k1 K0
      go_wp2_with fail
      refine (A.out _).mono ?_
      rintro e ux ⟨rfl, rfl⟩
      go_wp2_with fail
      refine (B.out _).mono ?_
      rintro e ux ⟨rfl, rfl⟩
      go_wp2_with fail
      refine (C.out _).mono ?_
      rintro e ux ⟨rfl, rfl⟩
      go_wp2_with fail
      refine (D.out _).mono ?_
      rintro e ux ⟨rfl, rfl⟩
      go_wp2_with fail
      refine (E.out _).mono ?_
      rintro e ux ⟨rfl, rfl⟩
      go_wp2_with fail
      refine (F.out _).mono ?_
      rintro e ux ⟨rfl, rfl⟩
      go_wp2
      go_ret
      exact ⟨rfl, K1.out⟩
    · have f1 : (a == b) = true := by simpa using q1
      have f2 : (r % 8 == r / 8 % 8) = false := by simpa using q2
      have f3 : (p == q) = false := by simpa using fun h => q2 (pq.1 h).2
      have f4 : (s == t) = false := by simpa using fun h => q2 (st.1 h).2
      have f5 : (p == s) = decide (127 < a) := by rw [Bool.eq_iff_iff]; simpa using ps
      clear pq st ps q1 q2 p2 s2 cd
      go_enter Try.func7, Try.ntmps7
      have K0 := hid (Kept.refl w)
      go_wp2_with fail
      refine (S.out _).mono ?_
      rintro e u1 ⟨rfl, k1⟩
      have K1 := hid (K0.out.trans k1)
      clear k1 K0
      go_wp2_with fail
      refine (A.out _).mono ?_
      rintro e ux ⟨rfl, rfl⟩
      go_wp2_with fail
      refine (B.out _).mono ?_
      rintro e ux ⟨rfl, rfl⟩
      go_wp2_with fail
      refine (C.out _).mono ?_
      rintro e ux ⟨rfl, rfl⟩
      go_wp2_with fail
      refine (D.out _).mono ?_
      rintro e ux ⟨rfl, rfl⟩
      go_wp2_with fail
      refine (E.out _).mono ?_
      rintro e ux ⟨rfl, rfl⟩
      go_wp2_with fail
      refine (F.out _).mono ?_
      rintro e ux ⟨rfl, rfl⟩
      go_wp2
      go_ret
      exact ⟨rfl, K1.out⟩
  · have f1 : (a == b) = false := by simpa using q1
    have f3 : (p == q) = false := by simpa using fun h => q1 (pq.1 h).1
    have f4 : (s == t) = false := by simpa using fun h => q1 (st.1 h).1
    have f5 : (p == s) = decide (127 < a) := by rw [Bool.eq_iff_iff]; simpa using ps
    clear pq st ps q1 p2 s2 cd
    go_enter Try.func7, Try.ntmps7
    have K0 := hid (Kept.refl w)
    go_wp2_with fail
    refine (S.out _).mono ?_
    rintro e u1 ⟨rfl, k1⟩
    have K1 := hid (K0.out.trans k1)
    clear k1 K0
    go_wp2_with fail
    refine (A.out _).mono ?_
    rintro e ux ⟨rfl, rfl⟩
    go_wp2_with fail
    refine (B.out _).mono ?_
    rintro e ux ⟨rfl, rfl⟩
    go_wp2_with fail
    refine (C.out _).mono ?_
    rintro e ux ⟨rfl, rfl⟩
    go_wp2_with fail
    refine (D.out _).mono ?_
    rintro e ux ⟨rfl, rfl⟩
    go_wp2_with fail
    refine (E.out _).mono ?_
    rintro e ux ⟨rfl, rfl⟩
    go_wp2_with fail
    refine (F.out _).mono ?_
    rintro e ux ⟨rfl, rfl⟩
    go_wp2
    go_ret
    exact ⟨rfl, K1.out⟩
theorem pal_next (q : Int) (k : Nat) (h : k < 4) (h0 : 0 ≤ q) (h1 : q ≤ 255) : 4 * (q / 4 ^ (k + 1)) + shadeP q (k : Int) = q / 4 ^ k := by
  have e : k = 0 ∨ k = 1 ∨ k = 2 ∨ k = 3 := by omega
  rcases e with rfl | rfl | rfl | rfl
  · show 4 * (q / 4) + q / 1 % 4 = q / 1; omega
  · show 4 * (q / 16) + q / 4 % 4 = q / 4; omega
  · show 4 * (q / 64) + q / 16 % 4 = q / 16; omega
  · show 4 * (q / 256) + q / 64 % 4 = q / 64; omega
theorem pal_again (q : Int) (k : Nat) : shadeP q ((k : Int) + 4) = shadeP q (k : Int) := by
  unfold shadeP
  rw [show ((k : Int) + 4) % 4 = (k : Int) % 4 by omega]
set_option maxRecDepth 100000 in
set_option maxHeartbeats 4000000 in
theorem palettes17 (q : Int) (w : World) (q0 : 0 ≤ q) (q1 : q ≤ 255) : Calls Try.prog 8 #[.int .u8 q] w fun e w' => e = .returned (.bool true) ∧ Kept w w' := by
  have S := hid (fun u => kshown17 u)
  have A := hid (fun (k : Nat) (h : k < 4) u => pshade17 q (k : Int) u q0 q1 (by omega) (by omega))
  have B := hid (fun (k : Nat) (h : k < 4) u => pshade17 q ((k : Int) + 4) u q0 q1 (by omega) (by omega))
  go_enter Try.func8, Try.ntmps8
  go_wp2_with fail
  refine (S.out _).mono ?_
  rintro e u1 ⟨rfl, k1⟩
  have K1 := hid k1
  clear k1
  go_wp2_with fail
  go_loopw [4, 5, 6] (fun vs vc _ wr => ∃ j : Nat, j ≤ 4 ∧ vs = .int .i64 (q / 4 ^ j) ∧ vc = .int .i64 ((j : Int) - 1) ∧ Kept w wr) (fun _ vc _ _ => (intOf vc + 1).toNat)
  case atStart => exact ⟨4, Nat.le_refl _, by rw [show q / 4 ^ 4 = 0 from Int.ediv_eq_zero_of_lt q0 (by show q < 256; omega)], rfl, K1.out⟩
  case round =>
    obtain ⟨j, hj, rfl, rfl, hk⟩ := hrel
    have KK := hid hk
    clear hk K1
    cases j with
    | zero =>
      have g1 : decide ((0 : Int) ≤ ((0 : Nat) : Int) - 1) = false := by decide
      have e1 : q / 4 ^ 0 = q := by show q / 1 = q; omega
      rw [e1]
      go_wp2
      go_ret
      exact ⟨rfl, KK.out⟩
    | succ k =>
      have k4 : k < 4 := by omega
      have ee : ((k + 1 : Nat) : Int) - 1 = (k : Int) := by omega
      rw [ee]
      have C := hid (fun u => A.out k k4 u)
      have D := hid (fun u => B.out k k4 u)
      have NX := hid (pal_next q k k4 q0 q1)
      simp only [pal_again q k] at D
      have sb := shade_bd q (k : Int)
      have vb := quart_bd q (k + 1) q0 q1
      generalize shadeP q (k : Int) = sv at *
      generalize q / 4 ^ (k + 1) = v at *
      have g1 : decide (0 ≤ (k : Int)) = true := decide_eq_true (by omega)
      have g2 : decide (3 < sv) = false := decide_eq_false (by omega)
      have e1 : IntKind.u8.wrap (k : Int) = (k : Int) := by rw [IntKind.wrap_u8]; omega
      have e2 : IntKind.i64.wrap ((k : Int) + 4) = (k : Int) + 4 := by rw [IntKind.wrap_i64]; omega
      have e3 : IntKind.u8.wrap ((k : Int) + 4) = (k : Int) + 4 := by rw [IntKind.wrap_u8]; omega
      have e4 : IntKind.i64.wrap (4 * v) = 4 * v := by rw [IntKind.wrap_i64]; omega
      have e5 : IntKind.i64.wrap (4 * v + sv) = 4 * v + sv := by rw [IntKind.wrap_i64]; omega
      have e6 : IntKind.i64.wrap ((k : Int) - 1) = (k : Int) - 1 := by rw [IntKind.wrap_i64]; omega
      have e7 : IntKind.i64.wrap sv = sv := by rw [IntKind.wrap_i64]; omega
      go_wp2_with fail
      refine (C.out _).mono ?_
      rintro e u2 ⟨rfl, rfl⟩
      go_wp2_with fail
      refine (D.out _).mono ?_
      rintro e u3 ⟨rfl, rfl⟩
      go_wp2_with fail
      go_roundw
      case rel => exact ⟨k, by omega, by rw [← NX.out], by first | rfl | go_num, KK.out⟩
      case measure => first | done | (simp [intOf]; done) | omega | (simp; omega) | (simp [intOf]; omega)
end Go.Proofs.Ytdimkeknjhdjfaa
