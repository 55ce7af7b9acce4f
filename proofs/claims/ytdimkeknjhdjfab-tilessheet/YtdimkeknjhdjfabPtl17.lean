/- What the program's calls of layer 17 come to (but for sheets). -/
import Derived.Test.YtdimkeknjhdjfabTl17
import Derived.Test.YtdimkeknjhdjfabRef
import Derived.Test.YtdimkeknjhdjfabK8
import Derived.Test.YtdimkeknjhdjfabBk
import Derived.Test.YtdimkeknjhdjfabChecked
import Derived.Handy
import Derived.BigQuiet
namespace Go.Proofs.Ytdimkeknjhdjfab
open Go.RowKit
set_option linter.unusedVariables false
set_option linter.unusedSimpArgs false

set_option maxRecDepth 100000 in
set_option maxHeartbeats 4000000 in
theorem ppix0 (lo hi : Int) (w : World) (l0 : 0 ≤ lo) (l1 : lo ≤ 255) (h0 : 0 ≤ hi) (h1 : hi ≤ 255) : Calls Try.prog 27 #[.int .u8 lo, .int .u8 hi, .int .i64 0] w fun e w' => e = .returned (.int .u8 (pixP lo hi 0)) ∧ Kept w w' := by
  have pe : pixP lo hi 0 = 2 * ((hi / 128) % 2) + (lo / 128) % 2 := pix_eq lo hi 7 (by decide)
  have a1 := and1_17 (hi / 128) (by omega) (by omega)
  have a2 := and1_17 (lo / 128) (by omega) (by omega)
  have b1 : IntKind.u8.wrap ((hi / 128) % 2 * 2) = (hi / 128) % 2 * 2 := by rw [IntKind.wrap_u8]; omega
  have o1 := or21 ((hi / 128) % 2) ((lo / 128) % 2) (by omega) (by omega) (by omega) (by omega)
  rw [pe]
  clear pe
  go_enter Try.func27, Try.ntmps27
  go_wp2
  go_quiet (fail)
  go_wp2
  go_ret
  exact ⟨by first | rfl | (show Ending.returned (.int .u8 (bits .or .u8 (bits .and .u8 (hi / 128) 1 * 2 % 256) (bits .and .u8 (lo / 128) 1))) = _; rw [a1, a2, Int.emod_eq_of_lt (by omega) (by omega), o1]), (Kept.refl w).drewN⟩
set_option maxRecDepth 100000 in
set_option maxHeartbeats 4000000 in
theorem ppix1 (lo hi : Int) (w : World) (l0 : 0 ≤ lo) (l1 : lo ≤ 255) (h0 : 0 ≤ hi) (h1 : hi ≤ 255) : Calls Try.prog 27 #[.int .u8 lo, .int .u8 hi, .int .i64 1] w fun e w' => e = .returned (.int .u8 (pixP lo hi 1)) ∧ Kept w w' := by
  have pe : pixP lo hi 1 = 2 * ((hi / 64) % 2) + (lo / 64) % 2 := pix_eq lo hi 6 (by decide)
  have a1 := and1_17 (hi / 64) (by omega) (by omega)
  have a2 := and1_17 (lo / 64) (by omega) (by omega)
  have b1 : IntKind.u8.wrap ((hi / 64) % 2 * 2) = (hi / 64) % 2 * 2 := by rw [IntKind.wrap_u8]; omega
  have o1 := or21 ((hi / 64) % 2) ((lo / 64) % 2) (by omega) (by omega) (by omega) (by omega)
  rw [pe]
  clear pe
  go_enter Try.func27, Try.ntmps27
  go_wp2
  go_quiet (fail)
  go_wp2
  go_ret
  exact ⟨by first | rfl | (show Ending.returned (.int .u8 (bits .or .u8 (bits .and .u8 (hi / 64) 1 * 2 % 256) (bits .and .u8 (lo / 64) 1))) = _; rw [a1, a2, Int.emod_eq_of_lt (by omega) (by omega), o1]), (Kept.refl w).drewN⟩
set_option maxRecDepth 100000 in
set_option maxHeartbeats 4000000 in
theorem ppix2 (lo hi : Int) (w : World) (l0 : 0 ≤ lo) (l1 : lo ≤ 255) (h0 : 0 ≤ hi) (h1 : hi ≤ 255) : Calls Try.prog 27 #[.int .u8 lo, .int .u8 hi, .int .i64 2] w fun e w' => e = .returned (.int .u8 (pixP lo hi 2)) ∧ Kept w w' := by
  have pe : pixP lo hi 2 = 2 * ((hi / 32) % 2) + (lo / 32) % 2 := pix_eq lo hi 5 (by decide)
  have a1 := and1_17 (hi / 32) (by omega) (by omega)
  have a2 := and1_17 (lo / 32) (by omega) (by omega)
  have b1 : IntKind.u8.wrap ((hi / 32) % 2 * 2) = (hi / 32) % 2 * 2 := by rw [IntKind.wrap_u8]; omega
  have o1 := or21 ((hi / 32) % 2) ((lo / 32) % 2) (by omega) (by omega) (by omega) (by omega)
  rw [pe]
  clear pe
  go_enter Try.func27, Try.ntmps27
  go_wp2
  go_quiet (fail)
  go_wp2
  go_ret
  exact ⟨by first | rfl | (show Ending.returned (.int .u8 (bits .or .u8 (bits .and .u8 (hi / 32) 1 * 2 % 256) (bits .and .u8 (lo / 32) 1))) = _; rw [a1, a2, Int.emod_eq_of_lt (by omega) (by omega), o1]), (Kept.refl w).drewN⟩
set_option maxRecDepth 100000 in
set_option maxHeartbeats 4000000 in
theorem ppix3 (lo hi : Int) (w : World) (l0 : 0 ≤ lo) (l1 : lo ≤ 255) (h0 : 0 ≤ hi) (h1 : hi ≤ 255) : Calls Try.prog 27 #[.int .u8 lo, .int .u8 hi, .int .i64 3] w fun e w' => e = .returned (.int .u8 (pixP lo hi 3)) ∧ Kept w w' := by
  have pe : pixP lo hi 3 = 2 * ((hi / 16) % 2) + (lo / 16) % 2 := pix_eq lo hi 4 (by decide)
  have a1 := and1_17 (hi / 16) (by omega) (by omega)
  have a2 := and1_17 (lo / 16) (by omega) (by omega)
  have b1 : IntKind.u8.wrap ((hi / 16) % 2 * 2) = (hi / 16) % 2 * 2 := by rw [IntKind.wrap_u8]; omega
  have o1 := or21 ((hi / 16) % 2) ((lo / 16) % 2) (by omega) (by omega) (by omega) (by omega)
  rw [pe]
  clear pe
  go_enter Try.func27, Try.ntmps27
  go_wp2
  go_quiet (fail)
  go_wp2
  go_ret
  exact ⟨by first | rfl | (show Ending.returned (.int .u8 (bits .or .u8 (bits .and .u8 (hi / 16) 1 * 2 % 256) (bits .and .u8 (lo / 16) 1))) = _; rw [a1, a2, Int.emod_eq_of_lt (by omega) (by omega), o1]), (Kept.refl w).drewN⟩
set_option maxRecDepth 100000 in
set_option maxHeartbeats 4000000 in
theorem ppix4 (lo hi : Int) (w : World) (l0 : 0 ≤ lo) (l1 : lo ≤ 255) (h0 : 0 ≤ hi) (h1 : hi ≤ 255) : Calls Try.prog 27 #[.int .u8 lo, .int .u8 hi, .int .i64 4] w fun e w' => e = .returned (.int .u8 (pixP lo hi 4)) ∧ Kept w w' := by
  have pe : pixP lo hi 4 = 2 * ((hi / 8) % 2) + (lo / 8) % 2 := pix_eq lo hi 3 (by decide)
  have a1 := and1_17 (hi / 8) (by omega) (by omega)
  have a2 := and1_17 (lo / 8) (by omega) (by omega)
  have b1 : IntKind.u8.wrap ((hi / 8) % 2 * 2) = (hi / 8) % 2 * 2 := by rw [IntKind.wrap_u8]; omega
  have o1 := or21 ((hi / 8) % 2) ((lo / 8) % 2) (by omega) (by omega) (by omega) (by omega)
  rw [pe]
  clear pe
  go_enter Try.func27, Try.ntmps27
  go_wp2
  go_quiet (fail)
  go_wp2
  go_ret
  exact ⟨by first | rfl | (show Ending.returned (.int .u8 (bits .or .u8 (bits .and .u8 (hi / 8) 1 * 2 % 256) (bits .and .u8 (lo / 8) 1))) = _; rw [a1, a2, Int.emod_eq_of_lt (by omega) (by omega), o1]), (Kept.refl w).drewN⟩
set_option maxRecDepth 100000 in
set_option maxHeartbeats 4000000 in
theorem ppix5 (lo hi : Int) (w : World) (l0 : 0 ≤ lo) (l1 : lo ≤ 255) (h0 : 0 ≤ hi) (h1 : hi ≤ 255) : Calls Try.prog 27 #[.int .u8 lo, .int .u8 hi, .int .i64 5] w fun e w' => e = .returned (.int .u8 (pixP lo hi 5)) ∧ Kept w w' := by
  have pe : pixP lo hi 5 = 2 * ((hi / 4) % 2) + (lo / 4) % 2 := pix_eq lo hi 2 (by decide)
  have a1 := and1_17 (hi / 4) (by omega) (by omega)
  have a2 := and1_17 (lo / 4) (by omega) (by omega)
  have b1 : IntKind.u8.wrap ((hi / 4) % 2 * 2) = (hi / 4) % 2 * 2 := by rw [IntKind.wrap_u8]; omega
  have o1 := or21 ((hi / 4) % 2) ((lo / 4) % 2) (by omega) (by omega) (by omega) (by omega)
  rw [pe]
  clear pe
  go_enter Try.func27, Try.ntmps27
  go_wp2
  go_quiet (fail)
  go_wp2
  go_ret
  exact ⟨by first | rfl | (show Ending.returned (.int .u8 (bits .or .u8 (bits .and .u8 (hi / 4) 1 * 2 % 256) (bits .and .u8 (lo / 4) 1))) = _; rw [a1, a2, Int.emod_eq_of_lt (by omega) (by omega), o1]), (Kept.refl w).drewN⟩
set_option maxRecDepth 100000 in
set_option maxHeartbeats 4000000 in
theorem ppix6 (lo hi : Int) (w : World) (l0 : 0 ≤ lo) (l1 : lo ≤ 255) (h0 : 0 ≤ hi) (h1 : hi ≤ 255) : Calls Try.prog 27 #[.int .u8 lo, .int .u8 hi, .int .i64 6] w fun e w' => e = .returned (.int .u8 (pixP lo hi 6)) ∧ Kept w w' := by
  have pe : pixP lo hi 6 = 2 * ((hi / 2) % 2) + (lo / 2) % 2 := pix_eq lo hi 1 (by decide)
  have a1 := and1_17 (hi / 2) (by omega) (by omega)
  have a2 := and1_17 (lo / 2) (by omega) (by omega)
  have b1 : IntKind.u8.wrap ((hi / 2) % 2 * 2) = (hi / 2) % 2 * 2 := by rw [IntKind.wrap_u8]; omega
  have o1 := or21 ((hi / 2) % 2) ((lo / 2) % 2) (by omega) (by omega) (by omega) (by omega)
  rw [pe]
  clear pe
  go_enter Try.func27, Try.ntmps27
  go_wp2
  go_quiet (fail)
  go_wp2
  go_ret
  exact ⟨by first | rfl | (show Ending.returned (.int .u8 (bits .or .u8 (bits .and .u8 (hi / 2) 1 * 2 % 256) (bits .and .u8 (lo / 2) 1))) = _; rw [a1, a2, Int.emod_eq_of_lt (by omega) (by omega), o1]), (Kept.refl w).drewN⟩
set_option maxRecDepth 100000 in
set_option maxHeartbeats 4000000 in
theorem ppix7 (lo hi : Int) (w : World) (l0 : 0 ≤ lo) (l1 : lo ≤ 255) (h0 : 0 ≤ hi) (h1 : hi ≤ 255) : Calls Try.prog 27 #[.int .u8 lo, .int .u8 hi, .int .i64 7] w fun e w' => e = .returned (.int .u8 (pixP lo hi 7)) ∧ Kept w w' := by
  have pe : pixP lo hi 7 = 2 * (hi % 2) + lo % 2 := by have q := pix_eq lo hi 0 (by decide); simpa using q
  have a1 := and1_17 hi (by omega) (by omega)
  have a2 := and1_17 lo (by omega) (by omega)
  have b1 : IntKind.u8.wrap (hi % 2 * 2) = hi % 2 * 2 := by rw [IntKind.wrap_u8]; omega
  have o1 := or21 (hi % 2) (lo % 2) (by omega) (by omega) (by omega) (by omega)
  rw [pe]
  clear pe
  go_enter Try.func27, Try.ntmps27
  go_wp2
  go_quiet (fail)
  go_wp2
  go_ret
  exact ⟨by first | rfl | (show Ending.returned (.int .u8 (bits .or .u8 (bits .and .u8 hi 1 * 2 % 256) (bits .and .u8 lo 1))) = _; rw [a1, a2, Int.emod_eq_of_lt (by omega) (by omega), o1]), (Kept.refl w).drewN⟩
set_option maxRecDepth 100000 in
set_option maxHeartbeats 4000000 in
theorem ppix17 (lo hi n : Int) (w : World) (l0 : 0 ≤ lo) (l1 : lo ≤ 255) (h0 : 0 ≤ hi) (h1 : hi ≤ 255) : Calls Try.prog 27 #[.int .u8 lo, .int .u8 hi, .int .i64 n] w fun e w' => e = .returned (.int .u8 (pixP lo hi n)) ∧ Kept w w' := by
  by_cases hn : 0 ≤ n ∧ n < 8
  · have e : n = 0 ∨ n = 1 ∨ n = 2 ∨ n = 3 ∨ n = 4 ∨ n = 5 ∨ n = 6 ∨ n = 7 := by omega
    rcases e with rfl | rfl | rfl | rfl | rfl | rfl | rfl | rfl
    · exact ppix0 lo hi w l0 l1 h0 h1
    · exact ppix1 lo hi w l0 l1 h0 h1
    · exact ppix2 lo hi w l0 l1 h0 h1
    · exact ppix3 lo hi w l0 l1 h0 h1
    · exact ppix4 lo hi w l0 l1 h0 h1
    · exact ppix5 lo hi w l0 l1 h0 h1
    · exact ppix6 lo hi w l0 l1 h0 h1
    · exact ppix7 lo hi w l0 l1 h0 h1
  · rw [pix_out lo hi n hn]
    by_cases hm : n < 0
    · have g1 : decide (n < 0) = true := decide_eq_true hm
      go_enter Try.func27, Try.ntmps27
      go_wp2
      go_ret
      exact ⟨rfl, Kept.refl w⟩
    · have g1 : decide (n < 0) = false := decide_eq_false hm
      have g2 : decide (8 ≤ n) = true := decide_eq_true (by omega)
      go_enter Try.func27, Try.ntmps27
      go_wp2
      go_ret
      exact ⟨rfl, Kept.refl w⟩
set_option maxRecDepth 100000 in
set_option maxHeartbeats 4000000 in
theorem prow17 (lo hi : Int) (w : World) (l0 : 0 ≤ lo) (l1 : lo ≤ 255) (h0 : 0 ≤ hi) (h1 : hi ≤ 255) : Calls Try.prog 20 #[.int .u8 lo, .int .u8 hi] w fun e w' => e = .returned (.agg (rowL lo hi).toArray) ∧ Kept w w' := by
  have PX := hid (fun (j : Nat) u => ppix17 lo hi (j : Int) u l0 l1 h0 h1)
  have X0 : Blk ((w.alloc (.cells (rowTo lo hi 0).toArray 43)).alloc (.cells (rowTo lo hi 0).toArray 43)) w.heap.size 43 (rowTo lo hi 0) := blk_past (blk_new w _ _) _
  have X1 : Blk ((w.alloc (.cells (rowTo lo hi 0).toArray 43)).alloc (.cells (rowTo lo hi 0).toArray 43)) (w.heap.size + 1) 43 (rowTo lo hi 0) := by have q := blk_new (w.alloc (.cells (rowTo lo hi 0).toArray 43)) (rowTo lo hi 0) 43; rw [World.size_alloc] at q; exact q
  have X2 := hid X0
  have X3 := hid X1
  clear X0 X1
  go_enter Try.func20, Try.ntmps20
  go_wp2_with fail
  go_loopw [6, 7] (fun n i wr => ∃ j : Nat, j ≤ 8 ∧ i = .int .i64 (j : Int) ∧ Blk wr w.heap.size 43 (rowTo lo hi 0) ∧ Blk wr (w.heap.size + 1) 43 (rowTo lo hi j) ∧ Kept w wr) (fun _ i _ => 8 - (intOf i).toNat)
  case atStart => exact ⟨0, Nat.zero_le _, rfl, X2.out, X3.out, ((Kept.refl w).alloc _).alloc _⟩
  case round =>
    obtain ⟨j, hj, rfl, hb0, hb, hk⟩ := hrel
    have B0 := hid hb0
    have BB := hid hb
    have KK := hid hk
    clear hb hb0 hk X2 X3
    by_cases hlt : j < 8
    · have PJ := hid (fun u => PX.out j u)
      have NX : Hid ((rowTo lo hi j).take j ++ [Value.int .u8 (pixP lo hi (j : Int))] ++ (rowTo lo hi j).drop (j + 1) = rowTo lo hi (j + 1)) := rowTo_next lo hi j hlt
      have LN : Hid ((rowTo lo hi j).length = 8) := rowTo_len lo hi j
      generalize pixP lo hi (j : Int) = v at *
      have e1 : IntKind.i64.wrap ((j : Int) + 1) = (j : Int) + 1 := by rw [IntKind.wrap_i64]; omega
      have g1 : decide ((j : Int) < 8) = true := decide_eq_true (by omega)
      go_wp2_with fail
      refine (PJ.out _).mono ?_
      rintro e u1 ⟨rfl, k1⟩
      have B1 := blk_kept k1 B0.out
      have Q1 := blk_kept k1 BB.out
      have K1 := hid (KK.out.trans k1)
      clear k1 BB KK B0
      go_wp2_with ((with_reducible refine at_st 5 ?_); refine wl_store rfl rfl rfl rfl Q1 (by kernel_rfl) rfl (by rw [LN.out]; show j + 1 ≤ 8; omega) (fun v2 p2 => ?_); have B2 : Blk v2 (w.heap.size + 1) 43 (rowTo lo hi (j + 1)) := (by rw [← NX.out]; exact p2.blk); have C2 := p2.other _ _ _ (Nat.ne_of_lt (Nat.lt_succ_self _)) B1; have K2 := hid (p2.kept _ K1.out (Nat.le_succ _)); clear p2)
      go_roundw
      case rel => exact ⟨j + 1, by omega, by first | go_num | rfl, C2, B2, K2.out⟩
      case measure => first | omega | (simp; omega) | (simp [intOf]; omega)
    · have je : j = 8 := by omega
      subst je
      have BR := BB.out
      rw [rowTo_8] at BR
      have KR := KK.out
      have BZ := B0.out
      clear BB KK B0
      go_wp2_with (first
        | ((with_reducible refine at_ld 43 ?_); refine wl_load0 rfl rfl rfl BR Try.underlying43 rfl (by kernel_rfl) ?_)
        | ((with_reducible refine at_st 43 ?_); refine wl_store rfl rfl rfl rfl BZ (by kernel_rfl) rfl (Nat.le_of_ble_eq_true rfl) (fun v3 p3 => ?_); have B3 : Blk v3 w.heap.size 43 (rowL lo hi) := p3.blk; have K3 := hid (p3.kept _ KR (Nat.le_refl _)); clear p3))
      exact bodyPost_ret (res_cell Try.results20 rfl B3 Try.underlying43 rfl (by kernel_rfl)) rfl ⟨rfl, K3.out⟩
set_option maxRecDepth 100000 in
set_option maxHeartbeats 4000000 in
theorem pplace0 (t r : Int) (w : World) (t0 : 0 ≤ t) (t1 : t ≤ 1000) (r0 : 0 ≤ r) (r1 : r ≤ 7) : Calls Try.prog 19 #[.int .i64 t, .int .i64 r] w fun e w' => e = .returned (.int .i64 (16 * t + 2 * r)) ∧ w' = w := by
  have e1 : IntKind.i64.wrap (16 * t) = 16 * t := by rw [IntKind.wrap_i64]; omega
  have e2 : IntKind.i64.wrap (2 * r) = 2 * r := by rw [IntKind.wrap_i64]; omega
  have e3 : IntKind.i64.wrap (16 * t + 2 * r) = 16 * t + 2 * r := by rw [IntKind.wrap_i64]; omega
  go_enter Try.func19, Try.ntmps19
  go_wp2
  go_ret
  exact ⟨rfl, rfl⟩
set_option maxRecDepth 100000 in
set_option maxHeartbeats 4000000 in
theorem pat17 (a : Option Addr) (cap : Nat) (z : List Int) (i : Int) (w : World) (hr : Row w a z) : Calls Try.prog 21 #[.slice a z.length cap, .int .i64 i] w fun e w' => e = .returned (.int .u8 (atP z i)) ∧ Kept w w' := by
  have hl := hr.1
  by_cases h1 : i < 0
  · rw [at_out z i (by omega)]
    have g1 : decide (i < 0) = true := decide_eq_true h1
    go_enter Try.func21, Try.ntmps21
    go_wp2
    go_ret
    exact ⟨rfl, Kept.refl w⟩
  · by_cases h2 : (z.length : Int) ≤ i
    · rw [at_out z i (by omega)]
      have g1 : decide (i < 0) = false := decide_eq_false h1
      have g2 : decide ((z.length : Int) ≤ i) = true := decide_eq_true h2
      go_enter Try.func21, Try.ntmps21
      go_wp2
      go_ret
      exact ⟨rfl, Kept.refl w⟩
    · obtain ⟨j, rfl⟩ := Int.eq_ofNat_of_zero_le (by omega : 0 ≤ i)
      have hj : j < z.length := by omega
      rw [at_in z j hj]
      obtain ⟨x, rfl, hx, hc⟩ := row_get hr (by omega)
      obtain ⟨c1, c2⟩ := hc j hj
      have cv : x.block < w.heap.size := hx
      generalize z.getD j 0 = v at *
      clear hc hr
      have g1 : decide ((j : Int) < 0) = false := decide_eq_false (by omega)
      have g2 : decide ((z.length : Int) ≤ (j : Int)) = false := decide_eq_false (by omega)
      have g3 : decide (z.length ≤ j) = false := decide_eq_false (by omega)
      go_enter Try.func21, Try.ntmps21
      go_wp2
      go_ret
      exact ⟨rfl, Kept.refl w⟩
end Go.Proofs.Ytdimkeknjhdjfab
