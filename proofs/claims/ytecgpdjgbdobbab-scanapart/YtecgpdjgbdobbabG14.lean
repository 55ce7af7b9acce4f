/- What the program's calls of layer 17 come to (but for sheets). What the document's answers of layer 17 come to. -/
import Derived.Test.YtecgpdjgbdobbabG00
import Derived.Test.YtecgpdjgbdobbabG08
import Derived.Test.YtecgpdjgbdobbabG09
import Derived.Test.YtecgpdjgbdobbabG10
import Derived.Test.YtecgpdjgbdobbabChecked
import Derived.Handy
import Derived.BigQuiet
namespace Go.Proofs.Ytecgpdjgbdobbab
open Go.RowKit
set_option linter.unusedVariables false
set_option linter.unusedSimpArgs false

set_option maxRecDepth 100000 in
set_option maxHeartbeats 4000000 in
theorem ppix0 (lo hi : Int) (w : World) (l0 : 0 ≤ lo) (l1 : lo ≤ 255) (h0 : 0 ≤ hi) (h1 : hi ≤ 255) : Calls Try.prog 29 #[.int .u8 lo, .int .u8 hi, .int .i64 0] w fun e w' => e = .returned (.int .u8 (pixP lo hi 0)) ∧ Kept w w' := by
  have pe : pixP lo hi 0 = 2 * ((hi / 128) % 2) + (lo / 128) % 2 := pix_eq lo hi 7 (by decide)
  have a1 := and1_17 (hi / 128) (by omega) (by omega)
  have a2 := and1_17 (lo / 128) (by omega) (by omega)
  have b1 : IntKind.u8.wrap ((hi / 128) % 2 * 2) = (hi / 128) % 2 * 2 := by rw [IntKind.wrap_u8]; omega
  have o1 := or21 ((hi / 128) % 2) ((lo / 128) % 2) (by omega) (by omega) (by omega) (by omega)
  rw [pe]
  clear pe
  go_enter Try.func29, Try.ntmps29
  go_wp2
  go_quiet (fail)
  go_wp2
  go_ret
  exact ⟨by first | rfl | (show Ending.returned (.int .u8 (bits .or .u8 (bits .and .u8 (hi / 128) 1 * 2 % 256) (bits .and .u8 (lo / 128) 1))) = _; rw [a1, a2, Int.emod_eq_of_lt (by omega) (by omega), o1]), (Kept.refl w).drewN⟩
set_option maxRecDepth 100000 in
set_option maxHeartbeats 4000000 in
theorem ppix1 (lo hi : Int) (w : World) (l0 : 0 ≤ lo) (l1 : lo ≤ 255) (h0 : 0 ≤ hi) (h1 : hi ≤ 255) : Calls Try.prog 29 #[.int .u8 lo, .int .u8 hi, .int .i64 1] w fun e w' => e = .returned (.int .u8 (pixP lo hi 1)) ∧ Kept w w' := by
  have pe : pixP lo hi 1 = 2 * ((hi / 64) % 2) + (lo / 64) % 2 := pix_eq lo hi 6 (by decide)
  have a1 := and1_17 (hi / 64) (by omega) (by omega)
  have a2 := and1_17 (lo / 64) (by omega) (by omega)
  have b1 : IntKind.u8.wrap ((hi / 64) % 2 * 2) = (hi / 64) % 2 * 2 := by rw [IntKind.wrap_u8]; omega
  have o1 := or21 ((hi / 64) % 2) ((lo / 64) % 2) (by omega) (by omega) (by omega) (by omega)
  rw [pe]
  clear pe
  go_enter Try.func29, Try.ntmps29
  go_wp2
  go_quiet (fail)
  go_wp2
  go_ret
  exact ⟨by first | rfl | (show Ending.returned (.int .u8 (bits .or .u8 (bits .and .u8 (hi / 64) 1 * 2 % 256) (bits .and .u8 (lo / 64) 1))) = _; rw [a1, a2, Int.emod_eq_of_lt (by omega) (by omega), o1]), (Kept.refl w).drewN⟩
set_option maxRecDepth 100000 in
set_option maxHeartbeats 4000000 in
theorem ppix2 (lo hi : Int) (w : World) (l0 : 0 ≤ lo) (l1 : lo ≤ 255) (h0 : 0 ≤ hi) (h1 : hi ≤ 255) : Calls Try.prog 29 #[.int .u8 lo, .int .u8 hi, .int .i64 2] w fun e w' => e = .returned (.int .u8 (pixP lo hi 2)) ∧ Kept w w' := by
  have pe : pixP lo hi 2 = 2 * ((hi / 32) % 2) + (lo / 32) % 2 := pix_eq lo hi 5 (by decide)
  have a1 := and1_17 (hi / 32) (by omega) (by omega)
  have a2 := and1_17 (lo / 32) (by omega) (by omega)
  have b1 : IntKind.u8.wrap ((hi / 32) % 2 * 2) = (hi / 32) % 2 * 2 := by rw [IntKind.wrap_u8]; omega
  have o1 := or21 ((hi / 32) % 2) ((lo / 32) % 2) (by omega) (by omega) (by omega) (by omega)
  rw [pe]
  clear pe
  go_enter Try.func29, Try.ntmps29
  go_wp2
  go_quiet (fail)
  go_wp2
  go_ret
  exact ⟨by first | rfl | (show Ending.returned (.int .u8 (bits .or .u8 (bits .and .u8 (hi / 32) 1 * 2 % 256) (bits .and .u8 (lo / 32) 1))) = _; rw [a1, a2, Int.emod_eq_of_lt (by omega) (by omega), o1]), (Kept.refl w).drewN⟩
set_option maxRecDepth 100000 in
set_option maxHeartbeats 4000000 in
theorem ppix3 (lo hi : Int) (w : World) (l0 : 0 ≤ lo) (l1 : lo ≤ 255) (h0 : 0 ≤ hi) (h1 : hi ≤ 255) : Calls Try.prog 29 #[.int .u8 lo, .int .u8 hi, .int .i64 3] w fun e w' => e = .returned (.int .u8 (pixP lo hi 3)) ∧ Kept w w' := by
  have pe : pixP lo hi 3 = 2 * ((hi / 16) % 2) + (lo / 16) % 2 := pix_eq lo hi 4 (by decide)
  have a1 := and1_17 (hi / 16) (by omega) (by omega)
  have a2 := and1_17 (lo / 16) (by omega) (by omega)
  have b1 : IntKind.u8.wrap ((hi / 16) % 2 * 2) = (hi / 16) % 2 * 2 := by rw [IntKind.wrap_u8]; omega
  have o1 := or21 ((hi / 16) % 2) ((lo / 16) % 2) (by omega) (by omega) (by omega) (by omega)
  rw [pe]
  clear pe
  go_enter Try.func29, Try.ntmps29
  go_wp2
  go_quiet (fail)
  go_wp2
  go_ret
  exact ⟨by first | rfl | (show Ending.returned (.int .u8 (bits .or .u8 (bits .and .u8 (hi / 16) 1 * 2 % 256) (bits .and .u8 (lo / 16) 1))) = _; rw [a1, a2, Int.emod_eq_of_lt (by omega) (by omega), o1]), (Kept.refl w).drewN⟩
set_option maxRecDepth 100000 in
set_option maxHeartbeats 4000000 in
theorem ppix4 (lo hi : Int) (w : World) (l0 : 0 ≤ lo) (l1 : lo ≤ 255) (h0 : 0 ≤ hi) (h1 : hi ≤ 255) : Calls Try.prog 29 #[.int .u8 lo, .int .u8 hi, .int .i64 4] w fun e w' => e = .returned (.int .u8 (pixP lo hi 4)) ∧ Kept w w' := by
  have pe : pixP lo hi 4 = 2 * ((hi / 8) % 2) + (lo / 8) % 2 := pix_eq lo hi 3 (by decide)
  have a1 := and1_17 (hi / 8) (by omega) (by omega)
  have a2 := and1_17 (lo / 8) (by omega) (by omega)
  have b1 : IntKind.u8.wrap ((hi / 8) % 2 * 2) = (hi / 8) % 2 * 2 := by rw [IntKind.wrap_u8]; omega
  have o1 := or21 ((hi / 8) % 2) ((lo / 8) % 2) (by omega) (by omega) (by omega) (by omega)
  rw [pe]
  clear pe
  go_enter Try.func29, Try.ntmps29
  go_wp2
  go_quiet (fail)
  go_wp2
  go_ret
  exact ⟨by first | rfl | (show Ending.returned (.int .u8 (bits .or .u8 (bits .and .u8 (hi / 8) 1 * 2 % 256) (bits .and .u8 (lo / 8) 1))) = _; rw [a1, a2, Int.emod_eq_of_lt (by omega) (by omega), o1]), (Kept.refl w).drewN⟩
set_option maxRecDepth 100000 in
set_option maxHeartbeats 4000000 in
theorem ppix5 (lo hi : Int) (w : World) (l0 : 0 ≤ lo) (l1 : lo ≤ 255) (h0 : 0 ≤ hi) (h1 : hi ≤ 255) : Calls Try.prog 29 #[.int .u8 lo, .int .u8 hi, .int .i64 5] w fun e w' => e = .returned (.int .u8 (pixP lo hi 5)) ∧ Kept w w' := by
  have pe : pixP lo hi 5 = 2 * ((hi / 4) % 2) + (lo / 4) % 2 := pix_eq lo hi 2 (by decide)
  have a1 := and1_17 (hi / 4) (by omega) (by omega)
  have a2 := and1_17 (lo / 4) (by omega) (by omega)
  have b1 : IntKind.u8.wrap ((hi / 4) % 2 * 2) = (hi / 4) % 2 * 2 := by rw [IntKind.wrap_u8]; omega
  have o1 := or21 ((hi / 4) % 2) ((lo / 4) % 2) (by omega) (by omega) (by omega) (by omega)
  rw [pe]
  clear pe
  go_enter Try.func29, Try.ntmps29
  go_wp2
  go_quiet (fail)
  go_wp2
  go_ret
  exact ⟨by first | rfl | (show Ending.returned (.int .u8 (bits .or .u8 (bits .and .u8 (hi / 4) 1 * 2 % 256) (bits .and .u8 (lo / 4) 1))) = _; rw [a1, a2, Int.emod_eq_of_lt (by omega) (by omega), o1]), (Kept.refl w).drewN⟩
set_option maxRecDepth 100000 in
set_option maxHeartbeats 4000000 in
theorem ppix6 (lo hi : Int) (w : World) (l0 : 0 ≤ lo) (l1 : lo ≤ 255) (h0 : 0 ≤ hi) (h1 : hi ≤ 255) : Calls Try.prog 29 #[.int .u8 lo, .int .u8 hi, .int .i64 6] w fun e w' => e = .returned (.int .u8 (pixP lo hi 6)) ∧ Kept w w' := by
  have pe : pixP lo hi 6 = 2 * ((hi / 2) % 2) + (lo / 2) % 2 := pix_eq lo hi 1 (by decide)
  have a1 := and1_17 (hi / 2) (by omega) (by omega)
  have a2 := and1_17 (lo / 2) (by omega) (by omega)
  have b1 : IntKind.u8.wrap ((hi / 2) % 2 * 2) = (hi / 2) % 2 * 2 := by rw [IntKind.wrap_u8]; omega
  have o1 := or21 ((hi / 2) % 2) ((lo / 2) % 2) (by omega) (by omega) (by omega) (by omega)
  rw [pe]
  clear pe
  go_enter Try.func29, Try.ntmps29
  go_wp2
  go_quiet (fail)
  go_wp2
  go_ret
  exact ⟨by first | rfl | (show Ending.returned (.int .u8 (bits .or .u8 (bits .and .u8 (hi / 2) 1 * 2 % 256) (bits .and .u8 (lo / 2) 1))) = _; rw [a1, a2, Int.emod_eq_of_lt (by omega) (by omega), o1]), (Kept.refl w).drewN⟩
set_option maxRecDepth 100000 in
set_option maxHeartbeats 4000000 in
theorem ppix7 (lo hi : Int) (w : World) (l0 : 0 ≤ lo) (l1 : lo ≤ 255) (h0 : 0 ≤ hi) (h1 : hi ≤ 255) : Calls Try.prog 29 #[.int .u8 lo, .int .u8 hi, .int .i64 7] w fun e w' => e = .returned (.int .u8 (pixP lo hi 7)) ∧ Kept w w' := by
  have pe : pixP lo hi 7 = 2 * (hi % 2) + lo % 2 := by have q := pix_eq lo hi 0 (by decide); simpa using q
  have a1 := and1_17 hi (by omega) (by omega)
  have a2 := and1_17 lo (by omega) (by omega)
  have b1 : IntKind.u8.wrap (hi % 2 * 2) = hi % 2 * 2 := by rw [IntKind.wrap_u8]; omega
  have o1 := or21 (hi % 2) (lo % 2) (by omega) (by omega) (by omega) (by omega)
  rw [pe]
  clear pe
  go_enter Try.func29, Try.ntmps29
  go_wp2
  go_quiet (fail)
  go_wp2
  go_ret
  exact ⟨by first | rfl | (show Ending.returned (.int .u8 (bits .or .u8 (bits .and .u8 hi 1 * 2 % 256) (bits .and .u8 lo 1))) = _; rw [a1, a2, Int.emod_eq_of_lt (by omega) (by omega), o1]), (Kept.refl w).drewN⟩
set_option maxRecDepth 100000 in
set_option maxHeartbeats 4000000 in
theorem ppix17 (lo hi n : Int) (w : World) (l0 : 0 ≤ lo) (l1 : lo ≤ 255) (h0 : 0 ≤ hi) (h1 : hi ≤ 255) : Calls Try.prog 29 #[.int .u8 lo, .int .u8 hi, .int .i64 n] w fun e w' => e = .returned (.int .u8 (pixP lo hi n)) ∧ Kept w w' := by
  by_cases hn : 0 ≤ n ∧ n < 8
  · have e : n = 0 ∨ n = 1 ∨ n = 2 ∨ n = 3 ∨ n = 4 ∨ n = 5 ∨ n = 6 ∨ n = 7 := by omega
    rcases e with rfl | rfl | rfl | rfl | rfl | rfl | rfl | rfl
    · exact ppix0 lo hi w l0 l1 h0 h1
    · exact ppix1 lo hi w l0 l1 h0 h1
    · exact ppix2 lo hi w l0 l1 h0 h1
    · exact ppix3 lo hi w l0 l1 h0 h1
    · exact ppix4 lo hi w l0 l1 h0 h1
    · exact ppix5 lo hi w l0 l1 h0 h1
    · exact ppix6 lo hi w l0 l1 h0 h1
    · exact ppix7 lo hi w l0 l1 h0 h1
  · rw [pix_out lo hi n hn]
    by_cases hm : n < 0
    · have g1 : decide (n < 0) = true := decide_eq_true hm
      go_enter Try.func29, Try.ntmps29
      go_wp2
      go_ret
      exact ⟨rfl, Kept.refl w⟩
    · have g1 : decide (n < 0) = false := decide_eq_false hm
      have g2 : decide (8 ≤ n) = true := decide_eq_true (by omega)
      go_enter Try.func29, Try.ntmps29
      go_wp2
      go_ret
      exact ⟨rfl, Kept.refl w⟩
set_option maxRecDepth 100000 in
set_option maxHeartbeats 4000000 in
theorem pplace0 (t r : Int) (w : World) (t0 : 0 ≤ t) (t1 : t ≤ 1000) (r0 : 0 ≤ r) (r1 : r ≤ 7) : Calls Try.prog 44 #[.int .i64 t, .int .i64 r] w fun e w' => e = .returned (.int .i64 (16 * t + 2 * r)) ∧ w' = w := by
  have e1 : IntKind.i64.wrap (16 * t) = 16 * t := by rw [IntKind.wrap_i64]; omega
  have e2 : IntKind.i64.wrap (2 * r) = 2 * r := by rw [IntKind.wrap_i64]; omega
  have e3 : IntKind.i64.wrap (16 * t + 2 * r) = 16 * t + 2 * r := by rw [IntKind.wrap_i64]; omega
  go_enter Try.func44, Try.ntmps44
  go_wp2
  go_ret
  exact ⟨rfl, rfl⟩
set_option maxRecDepth 100000 in
set_option maxHeartbeats 4000000 in
theorem pplace_f (t row : Int) (w : World) (t0 : 0 ≤ t) (t1 : t ≤ 255) : Calls Try.prog 35 #[.int .u8 t, .bool false, .int .i64 row] w fun e w' => e = .returned (.int .i64 (placeP t false row)) ∧ w' = w := by
  have m7 := mask7 row
  have sw := signed_wrap t t0 t1
  have sg : -128 ≤ signedOf t ∧ signedOf t ≤ 127 := by unfold signedOf; split <;> omega
  have R := hid (fun u => pplace0 t (row % 8) u (by omega) (by omega) (by omega) (by omega))
  have PE : placeP t false row = 16 * t + 2 * (row % 8) := by rfl
  rw [PE]
  clear PE
  generalize signedOf t = sv at *
  generalize row % 8 = r at *
  have e1 : IntKind.i64.wrap (256 + sv) = 256 + sv := by rw [IntKind.wrap_i64]; omega
  go_enter Try.func35, Try.ntmps35
  go_wp2_with fail
  refine (R.out _).mono ?_
  rintro e u1 ⟨rfl, rfl⟩
  go_wp2
  go_ret
  exact ⟨rfl, rfl⟩
set_option maxRecDepth 100000 in
set_option maxHeartbeats 4000000 in
theorem pplace_t (t row : Int) (w : World) (t0 : 0 ≤ t) (t1 : t ≤ 255) : Calls Try.prog 35 #[.int .u8 t, .bool true, .int .i64 row] w fun e w' => e = .returned (.int .i64 (placeP t true row)) ∧ w' = w := by
  have m7 := mask7 row
  have sw := signed_wrap t t0 t1
  have sg : -128 ≤ signedOf t ∧ signedOf t ≤ 127 := by unfold signedOf; split <;> omega
  have R := hid (fun u => pplace0 (256 + signedOf t) (row % 8) u (by omega) (by omega) (by omega) (by omega))
  have PE : placeP t true row = 16 * (256 + signedOf t) + 2 * (row % 8) := by show 4096 + 16 * signedOf t + 2 * (row % 8) = _; omega
  rw [PE]
  clear PE
  generalize signedOf t = sv at *
  generalize row % 8 = r at *
  have e1 : IntKind.i64.wrap (256 + sv) = 256 + sv := by rw [IntKind.wrap_i64]; omega
  go_enter Try.func35, Try.ntmps35
  go_wp2_with fail
  refine (R.out _).mono ?_
  rintro e u1 ⟨rfl, rfl⟩
  go_wp2
  go_ret
  exact ⟨rfl, rfl⟩
theorem pplace17 (t row : Int) (s : Bool) (w : World) (t0 : 0 ≤ t) (t1 : t ≤ 255) : Calls Try.prog 35 #[.int .u8 t, .bool s, .int .i64 row] w fun e w' => e = .returned (.int .i64 (placeP t s row)) ∧ w' = w := by
  cases s
  · exact pplace_f t row w t0 t1
  · exact pplace_t t row w t0 t1
set_option maxRecDepth 100000 in
set_option maxHeartbeats 4000000 in
theorem pcell17 (x y : Int) (h : Bool) (w : World) (x0 : 0 ≤ x) (x1 : x ≤ 255) (y0 : 0 ≤ y) (y1 : y ≤ 255) : Calls Try.prog 27 #[.bool h, .int .u8 x, .int .u8 y] w fun e w' => e = .returned (.int .i64 (cellP h x y)) ∧ w' = w := by
  have d1 : Int.tdiv y 8 = y / 8 := Int.tdiv_eq_ediv_of_nonneg y0
  have d2 : Int.tdiv x 8 = x / 8 := Int.tdiv_eq_ediv_of_nonneg x0
  cases h
  · show Calls _ _ _ _ fun e w' => e = .returned (.int .i64 (6144 + 32 * (y / 8) + x / 8)) ∧ w' = w
    have e1 : IntKind.u8.wrap (y / 8) = y / 8 := by rw [IntKind.wrap_u8]; omega
    have e2 : IntKind.u8.wrap (x / 8) = x / 8 := by rw [IntKind.wrap_u8]; omega
    have e3 : IntKind.i64.wrap (y / 8) = y / 8 := by rw [IntKind.wrap_i64]; omega
    have e4 : IntKind.i64.wrap (x / 8) = x / 8 := by rw [IntKind.wrap_i64]; omega
    have e5 : IntKind.i64.wrap (32 * (y / 8)) = 32 * (y / 8) := by rw [IntKind.wrap_i64]; omega
    have e6 : IntKind.i64.wrap (6144 + 32 * (y / 8)) = 6144 + 32 * (y / 8) := by rw [IntKind.wrap_i64]; omega
    have e7 : IntKind.i64.wrap (6144 + 32 * (y / 8) + x / 8) = 6144 + 32 * (y / 8) + x / 8 := by rw [IntKind.wrap_i64]; omega
    go_enter Try.func27, Try.ntmps27
    go_wp2
    go_ret
    exact ⟨rfl, rfl⟩
  · show Calls _ _ _ _ fun e w' => e = .returned (.int .i64 (7168 + 32 * (y / 8) + x / 8)) ∧ w' = w
    have e1 : IntKind.u8.wrap (y / 8) = y / 8 := by rw [IntKind.wrap_u8]; omega
    have e2 : IntKind.u8.wrap (x / 8) = x / 8 := by rw [IntKind.wrap_u8]; omega
    have e3 : IntKind.i64.wrap (y / 8) = y / 8 := by rw [IntKind.wrap_i64]; omega
    have e4 : IntKind.i64.wrap (x / 8) = x / 8 := by rw [IntKind.wrap_i64]; omega
    have e5 : IntKind.i64.wrap (32 * (y / 8)) = 32 * (y / 8) := by rw [IntKind.wrap_i64]; omega
    have e6 : IntKind.i64.wrap (7168 + 32 * (y / 8)) = 7168 + 32 * (y / 8) := by rw [IntKind.wrap_i64]; omega
    have e7 : IntKind.i64.wrap (7168 + 32 * (y / 8) + x / 8) = 7168 + 32 * (y / 8) + x / 8 := by rw [IntKind.wrap_i64]; omega
    go_enter Try.func27, Try.ntmps27
    go_wp2
    go_ret
    exact ⟨rfl, rfl⟩
set_option maxRecDepth 100000 in
set_option maxHeartbeats 4000000 in
theorem pshade0 (q c : Int) (w : World) (q0 : 0 ≤ q) (q1 : q ≤ 255) (c0 : 0 ≤ c) (c1 : c ≤ 255) (hc : c % 4 = 0) : Calls Try.prog 23 #[.int .u8 q, .int .u8 c] w fun e w' => e = .returned (.int .u8 (shadeP q c)) ∧ w' = w := by
  have pe : shadeP q c = q % 4 := by unfold shadeP; rw [hc]; show q / 1 % 4 = _; rw [Int.ediv_one]
  have a1 := and3_17 c c0 c1
  rw [hc] at a1
  have a2 := and3_17 q (by omega) (by omega)
  rw [pe]
  clear pe hc
  go_enter Try.func23, Try.ntmps23
  go_wp2
  go_ret
  exact ⟨rfl, rfl⟩
set_option maxRecDepth 100000 in
set_option maxHeartbeats 4000000 in
theorem pshade1 (q c : Int) (w : World) (q0 : 0 ≤ q) (q1 : q ≤ 255) (c0 : 0 ≤ c) (c1 : c ≤ 255) (hc : c % 4 = 1) : Calls Try.prog 23 #[.int .u8 q, .int .u8 c] w fun e w' => e = .returned (.int .u8 (shadeP q c)) ∧ w' = w := by
  have pe : shadeP q c = (q / 4) % 4 := by unfold shadeP; rw [hc]; rfl
  have a1 := and3_17 c c0 c1
  rw [hc] at a1
  have a2 := and3_17 (q / 4) (by omega) (by omega)
  rw [pe]
  clear pe hc
  go_enter Try.func23, Try.ntmps23
  go_wp2
  go_ret
  exact ⟨rfl, rfl⟩
set_option maxRecDepth 100000 in
set_option maxHeartbeats 4000000 in
theorem pshade2 (q c : Int) (w : World) (q0 : 0 ≤ q) (q1 : q ≤ 255) (c0 : 0 ≤ c) (c1 : c ≤ 255) (hc : c % 4 = 2) : Calls Try.prog 23 #[.int .u8 q, .int .u8 c] w fun e w' => e = .returned (.int .u8 (shadeP q c)) ∧ w' = w := by
  have pe : shadeP q c = (q / 16) % 4 := by unfold shadeP; rw [hc]; rfl
  have a1 := and3_17 c c0 c1
  rw [hc] at a1
  have a2 := and3_17 (q / 16) (by omega) (by omega)
  rw [pe]
  clear pe hc
  go_enter Try.func23, Try.ntmps23
  go_wp2
  go_ret
  exact ⟨rfl, rfl⟩
set_option maxRecDepth 100000 in
set_option maxHeartbeats 4000000 in
theorem pshade3 (q c : Int) (w : World) (q0 : 0 ≤ q) (q1 : q ≤ 255) (c0 : 0 ≤ c) (c1 : c ≤ 255) (hc : c % 4 = 3) : Calls Try.prog 23 #[.int .u8 q, .int .u8 c] w fun e w' => e = .returned (.int .u8 (shadeP q c)) ∧ w' = w := by
  have pe : shadeP q c = (q / 64) % 4 := by unfold shadeP; rw [hc]; rfl
  have a1 := and3_17 c c0 c1
  rw [hc] at a1
  have a2 := and3_17 (q / 64) (by omega) (by omega)
  rw [pe]
  clear pe hc
  go_enter Try.func23, Try.ntmps23
  go_wp2
  go_ret
  exact ⟨rfl, rfl⟩
theorem pshade17 (q c : Int) (w : World) (q0 : 0 ≤ q) (q1 : q ≤ 255) (c0 : 0 ≤ c) (c1 : c ≤ 255) : Calls Try.prog 23 #[.int .u8 q, .int .u8 c] w fun e w' => e = .returned (.int .u8 (shadeP q c)) ∧ w' = w := by
  have e : c % 4 = 0 ∨ c % 4 = 1 ∨ c % 4 = 2 ∨ c % 4 = 3 := by omega
  rcases e with h | h | h | h
  · exact pshade0 q c w q0 q1 c0 c1 h
  · exact pshade1 q c w q0 q1 c0 c1 h
  · exact pshade2 q c w q0 q1 c0 c1 h
  · exact pshade3 q c w q0 q1 c0 c1 h
set_option maxRecDepth 100000 in
set_option maxHeartbeats 4000000 in
theorem pat17 (a : Option Addr) (cap : Nat) (z : List Int) (i : Int) (w : World) (hr : Row w a z) : Calls Try.prog 26 #[.slice a z.length cap, .int .i64 i] w fun e w' => e = .returned (.int .u8 (atP z i)) ∧ Kept w w' := by
  have hl := hr.1
  by_cases h1 : i < 0
  · rw [at_out z i (by omega)]
    have g1 : decide (i < 0) = true := decide_eq_true h1
    go_enter Try.func26, Try.ntmps26
    go_wp2
    go_ret
    exact ⟨rfl, Kept.refl w⟩
  · by_cases h2 : (z.length : Int) ≤ i
    · rw [at_out z i (by omega)]
      have g1 : decide (i < 0) = false := decide_eq_false h1
      have g2 : decide ((z.length : Int) ≤ i) = true := decide_eq_true h2
      go_enter Try.func26, Try.ntmps26
      go_wp2
      go_ret
      exact ⟨rfl, Kept.refl w⟩
    · obtain ⟨j, rfl⟩ := Int.eq_ofNat_of_zero_le (by omega : 0 ≤ i)
      have hj : j < z.length := by omega
      rw [at_in z j hj]
      obtain ⟨x, rfl, hx, hc⟩ := row_get hr (by omega)
      obtain ⟨c1, c2⟩ := hc j hj
      have cv : x.block < w.heap.size := hx
      generalize z.getD j 0 = v at *
      clear hc hr
      have g1 : decide ((j : Int) < 0) = false := decide_eq_false (by omega)
      have g2 : decide ((z.length : Int) ≤ (j : Int)) = false := decide_eq_false (by omega)
      have g3 : decide (z.length ≤ j) = false := decide_eq_false (by omega)
      go_enter Try.func26, Try.ntmps26
      go_wp2
      go_ret
      exact ⟨rfl, Kept.refl w⟩
end Go.Proofs.Ytecgpdjgbdobbab
namespace Go.Proofs.Ytecgpdjgbdobbab
open Go.RowKit
set_option linter.unusedVariables false
set_option linter.unusedSimpArgs false

end Go.Proofs.Ytecgpdjgbdobbab
