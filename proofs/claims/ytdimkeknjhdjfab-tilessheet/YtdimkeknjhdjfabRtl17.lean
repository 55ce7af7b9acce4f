/- What the document's answers of layer 17 come to. -/
import Derived.Test.YtdimkeknjhdjfabPtl17
namespace Go.Proofs.Ytdimkeknjhdjfab
open Go.RowKit
set_option linter.unusedVariables false
set_option linter.unusedSimpArgs false

set_option maxRecDepth 100000 in
set_option maxHeartbeats 4000000 in
theorem rbit17 (v n : Int) (w : World) (v0 : 0 ≤ v) (v1 : v ≤ 255) : Calls Try.prog 22 #[.int .u8 v, .int .i64 n] w fun e w' => e = .returned (.int .u8 (bN v n)) ∧ w' = w := by
  have B := hid (fun u => rbit_any v n u v0 v1)
  unfold bN
  generalize bitOf v n = b at *
  cases b
  all_goals
    go_enter Try.func22, Try.ntmps22
    go_wp2_with fail
    refine (B.out _).mono ?_
    rintro e u1 ⟨rfl, rfl⟩
    go_wp2
    go_ret
    exact ⟨rfl, rfl⟩
set_option maxRecDepth 100000 in
set_option maxHeartbeats 4000000 in
theorem rpix17 (lo hi n : Int) (w : World) (l0 : 0 ≤ lo) (l1 : lo ≤ 255) (h0 : 0 ≤ hi) (h1 : hi ≤ 255) : Calls Try.prog 13 #[.int .u8 lo, .int .u8 hi, .int .i64 n] w fun e w' => e = .returned (.int .u8 (pixP lo hi n)) ∧ Kept w w' := by
  by_cases hn : 0 ≤ n ∧ n < 8
  · rw [pix_in lo hi n hn.1 hn.2]
    have A := hid (fun u => rbit17 hi (7 - n) u h0 h1)
    have B := hid (fun u => rbit17 lo (7 - n) u l0 l1)
    have ba := bN_bd hi (7 - n)
    have bb := bN_bd lo (7 - n)
    have g1 : decide (n < 0) = false := decide_eq_false (by omega)
    have g2 : decide (7 < n) = false := decide_eq_false (by omega)
    have e0 : IntKind.i64.wrap (7 - n) = 7 - n := by rw [IntKind.wrap_i64]; omega
    generalize bN hi (7 - n) = x at *
    generalize bN lo (7 - n) = y at *
    have e1 : IntKind.u8.wrap (2 * x) = 2 * x := by rw [IntKind.wrap_u8]; omega
    have e2 : IntKind.u8.wrap (2 * x + y) = 2 * x + y := by rw [IntKind.wrap_u8]; omega
    go_enter Try.func13, Try.ntmps13
    go_wp2_with fail
    refine (A.out _).mono ?_
    rintro e u1 ⟨rfl, rfl⟩
    go_wp2_with fail
    refine (B.out _).mono ?_
    rintro e u1 ⟨rfl, rfl⟩
    go_wp2
    go_ret
    exact ⟨rfl, Kept.refl _⟩
  · rw [pix_out lo hi n hn]
    by_cases hm : n < 0
    · have g1 : decide (n < 0) = true := decide_eq_true hm
      go_enter Try.func13, Try.ntmps13
      go_wp2
      go_ret
      exact ⟨rfl, Kept.refl w⟩
    · have g1 : decide (n < 0) = false := decide_eq_false hm
      have g2 : decide (7 < n) = true := decide_eq_true (by omega)
      go_enter Try.func13, Try.ntmps13
      go_wp2
      go_ret
      exact ⟨rfl, Kept.refl w⟩
set_option maxRecDepth 100000 in
set_option maxHeartbeats 4000000 in
theorem rat17 (a : Option Addr) (cap : Nat) (z : List Int) (i : Int) (w : World) (hr : Row w a z) : Calls Try.prog 14 #[.slice a z.length cap, .int .i64 i] w fun e w' => e = .returned (.int .u8 (atP z i)) ∧ Kept w w' := by
  have hl := hr.1
  by_cases h1 : i < 0
  · rw [at_out z i (by omega)]
    have g1 : decide (i < 0) = true := decide_eq_true h1
    go_enter Try.func14, Try.ntmps14
    go_wp2
    go_ret
    exact ⟨rfl, Kept.refl w⟩
  · by_cases h2 : (z.length : Int) ≤ i
    · rw [at_out z i (by omega)]
      have g1 : decide (i < 0) = false := decide_eq_false h1
      have g2 : decide ((z.length : Int) ≤ i) = true := decide_eq_true h2
      go_enter Try.func14, Try.ntmps14
      go_wp2
      go_ret
      exact ⟨rfl, Kept.refl w⟩
    · obtain ⟨j, rfl⟩ := Int.eq_ofNat_of_zero_le (by omega : 0 ≤ i)
      have hj : j < z.length := by omega
      rw [at_in z j hj]
      obtain ⟨x, rfl, hx, hc⟩ := row_get hr (by omega)
      obtain ⟨c1, c2⟩ := hc j hj
      have cv : x.block < w.heap.size := hx
      generalize z.getD j 0 = v at *
      clear hc hr
      have g1 : decide ((j : Int) < 0) = false := decide_eq_false (by omega)
      have g2 : decide ((z.length : Int) ≤ (j : Int)) = false := decide_eq_false (by omega)
      have g3 : decide (z.length ≤ j) = false := decide_eq_false (by omega)
      go_enter Try.func14, Try.ntmps14
      go_wp2
      go_ret
      exact ⟨rfl, Kept.refl w⟩
end Go.Proofs.Ytdimkeknjhdjfab
