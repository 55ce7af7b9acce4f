/- The laid table of layer 20; the program's rowOf, Region, Line, Shut, Meets. -/
import Derived.Test.YtfndpikcodjajabDoorLaidAt
import Derived.Test.YtfndpikcodjajabDoorBu20
import Derived.BigQuiet
namespace Go.Proofs.YtfndpikcodjajabDoor
open Go.ChangeShapes Go.WideShapes Go.ChangeAt Go.RowKit
set_option linter.unusedVariables false
set_option linter.unusedSimpArgs false

def rowsA : Array Value := #[.int .u16 0, .int .u16 32767, .int .i64 0, .int .i64 0, .int .u16 32768, .int .u16 40959, .int .i64 1, .int .i64 1, .int .u16 40960, .int .u16 49151, .int .i64 2, .int .i64 0, .int .u16 49152, .int .u16 57343, .int .i64 3, .int .i64 0, .int .u16 57344, .int .u16 65023, .int .i64 3, .int .i64 0, .int .u16 65024, .int .u16 65183, .int .i64 4, .int .i64 2, .int .u16 65184, .int .u16 65279, .int .i64 5, .int .i64 2, .int .u16 65280, .int .u16 65407, .int .i64 6, .int .i64 2, .int .u16 65408, .int .u16 65534, .int .i64 7, .int .i64 2, .int .u16 65535, .int .u16 65535, .int .i64 8, .int .i64 2]
def Lay20 (w : World) : Prop := Has w 0 rowsA
theorem lay20_kept {W w : World} (h : Lay20 W) (k : Kept W w) : Lay20 w := hasK k h
theorem lay20_X {F : Nat → Prop} {W w : World} (h : Lay20 W) (k : KeptX F W w) (hF : ¬ F 0) : Lay20 w := hasX k h hF
theorem of_laid {W : World} (h : laidMetH Tryd.prog Rows.busNobodyRow.laid W) : Lay20 W := by
  rw [MakeChecks.laidMetH_plain _ _ _ (by kernel_rfl)] at h
  obtain ⟨ps, hL, _, _⟩ := h
  exact laid_at hL 0 _ rfl (t := 47) (k := 5) (l := rowsA.toList) (by kernel_rfl) (by kernel_rfl) (by kernel_rfl) (by decide)
theorem start_met (os : Os) (args : Array Value) : laidMetH Tryd.prog Rows.busNobodyRow.laid ((World.laidAll Tryd.prog os Rows.busNobodyRow.laid).forCall (fun _ _ => 0) ⟨#[], args, []⟩).memory := by
  rw [MakeChecks.laidMetH_plain _ _ _ (by kernel_rfl)]
  exact laidMet_laidAll _ (by kernel_rfl) (by kernel_rfl)
theorem lay_cells {w : World} (h : Lay20 w) : ∀ k, k < 10 → w.cell? ⟨0, k * 4, none⟩ = some (.int .u16 (firK k)) ∧ w.cell? ⟨0, k * 4 + 1, none⟩ = some (.int .u16 (lasK k)) ∧ w.cell? ⟨0, k * 4 + 2, none⟩ = some (.int .i64 (regK k)) ∧ w.cell? ⟨0, k * 4 + 3, none⟩ = some (.int .i64 (linK k))
  | 0, _ => ⟨h.2 0, h.2 1, h.2 2, h.2 3⟩
  | 1, _ => ⟨h.2 4, h.2 5, h.2 6, h.2 7⟩
  | 2, _ => ⟨h.2 8, h.2 9, h.2 10, h.2 11⟩
  | 3, _ => ⟨h.2 12, h.2 13, h.2 14, h.2 15⟩
  | 4, _ => ⟨h.2 16, h.2 17, h.2 18, h.2 19⟩
  | 5, _ => ⟨h.2 20, h.2 21, h.2 22, h.2 23⟩
  | 6, _ => ⟨h.2 24, h.2 25, h.2 26, h.2 27⟩
  | 7, _ => ⟨h.2 28, h.2 29, h.2 30, h.2 31⟩
  | 8, _ => ⟨h.2 32, h.2 33, h.2 34, h.2 35⟩
  | 9, _ => ⟨h.2 36, h.2 37, h.2 38, h.2 39⟩
  | k + 10, hk => absurd hk (by omega)
set_option maxRecDepth 100000 in
set_option maxHeartbeats 4000000 in
theorem prow_k (a : Int) (k : Nat) (hk : k < 10) (w : World) (lay : Lay20 w) (ha : ∀ j, j < k → lasK j < a) (hb : a ≤ lasK k) :
    Calls Tryd.prog 17 #[.int .u16 a] w fun e w' => e = .returned (.agg #[.int .u16 (firK k), .int .u16 (lasK k), .int .i64 (regK k), .int .i64 (linK k)]) ∧ Kept w w' := by
  have LC := hid (lay_cells lay)
  have l0 := lay.1
  have HA := hid ha
  clear lay ha
  go_enter Tryd.func17, Tryd.ntmps17
  go_wp2_with fail
  go_loopw [3] (fun v3 wr => ∃ j : Nat, j ≤ k ∧ v3 = .int .i64 (j : Int) ∧ wr = w.alloc (.cells #[.int .u16 0, .int .u16 0, .int .i64 0, .int .i64 0] 45)) (fun v3 _ => 10 - (intOf v3).toNat)
  case atStart => exact ⟨0, Nat.zero_le _, rfl, rfl⟩
  case round =>
    obtain ⟨j, hj, rfl, rfl⟩ := hrel
    have j10 : j < 10 := by omega
    obtain ⟨c0, c1, c2, c3⟩ := LC.out j j10
    have j0 : (0 : Int) ≤ (j : Int) := by omega
    have j1 : (j : Int) < 10 := by omega
    by_cases hlt : j < k
    · have g1 : decide (lasK j < a) = true := decide_eq_true (HA.out j hlt)
      have e1 : IntKind.i64.wrap ((j : Int) + 1) = (j : Int) + 1 := by rw [IntKind.wrap_i64]; omega
      go_wp2_with fail
      go_roundw
      case rel => exact ⟨j + 1, by omega, by first | go_num | rfl, by first | trivial | rfl⟩
      case measure => first | omega | (simp; omega) | (simp [intOf]; omega)
    · have je : j = k := by omega
      subst je
      have g1 : decide (lasK j < a) = false := decide_eq_false (by omega)
      clear hb hlt HA LC
      go_wp2
      exact bodyPost_ret (v := .agg #[.int .u16 (firK j), .int .u16 (lasK j), .int .i64 (regK j), .int .i64 (linK j)]) (by simp [results, Tryd.results17, go_sem]) rfl ⟨rfl, (Kept.refl w).alloc _⟩
theorem fld20_2 (x y r l : Int) (u : World) : (Instr.field 45 (.agg #[.int .u16 x, .int .u16 y, .int .i64 r, .int .i64 l]) 2).run Tryd.prog u = .ok (.int .i64 r) u := by rfl
theorem fld20_3 (x y r l : Int) (u : World) : (Instr.field 45 (.agg #[.int .u16 x, .int .u16 y, .int .i64 r, .int .i64 l]) 3).run Tryd.prog u = .ok (.int .i64 l) u := by rfl
theorem prow20 (a : Int) (w : World) (lay : Lay20 w) (a0 : 0 ≤ a) (a1 : a ≤ 65535) : Calls Tryd.prog 17 #[.int .u16 a] w fun e w' => e = .returned (.agg #[.int .u16 (firK (rwK a)), .int .u16 (lasK (rwK a)), .int .i64 (regK (rwK a)), .int .i64 (linK (rwK a))]) ∧ Kept w w' :=
  prow_k a (rwK a) (rw_lt a) w lay (rw_below a a0 a1) (rw_fits a a0 a1).2
set_option maxRecDepth 100000 in
set_option maxHeartbeats 4000000 in
theorem preg20 (a : Int) (w : World) (lay : Lay20 w) (a0 : 0 ≤ a) (a1 : a ≤ 65535) : Calls Tryd.prog 10 #[.int .u16 a] w fun e w' => e = .returned (.tuple #[.int .i64 (regP a), .int .i64 (atP20 a)]) ∧ Kept w w' := by
  have R := hid (prow20 a w lay a0 a1)
  have q := rw_fits a a0 a1
  have e1 : IntKind.u16.wrap (a - firK (rwK a)) = a - firK (rwK a) := by
    have f0 : 0 ≤ firK (rwK a) := by have := at_in a a0 a1; unfold atP20 at this; omega
    rw [IntKind.wrap_u16]; omega
  have e2 : IntKind.i64.wrap (a - firK (rwK a)) = a - firK (rwK a) := by
    have f0 : 0 ≤ firK (rwK a) := by have := at_in a a0 a1; unfold atP20 at this; omega
    rw [IntKind.wrap_i64]; omega
  unfold regP atP20
  clear lay q
  go_enter Tryd.func10, Tryd.ntmps10
  go_wp2_with fail
  refine R.out.mono ?_
  rintro e u ⟨rfl, k1⟩
  have K1 := hid k1
  clear k1
  go_wp2_with fail
  go_quiet (fail)
  all_goals
    go_wp2
    refine bodyPost_ret (v := .tuple #[.int .i64 (regK (rwK a)), .int .i64 (a - firK (rwK a))]) (by simp [results, Tryd.results10, go_sem]) rfl ⟨rfl, ?_⟩
    exact (by repeat (first | exact K1.out | with_reducible refine Kept.alloc ?_ _ | with_reducible refine Kept.drew ?_ | with_reducible refine Kept.drewN ?_))
set_option maxRecDepth 100000 in
set_option maxHeartbeats 4000000 in
theorem plin20 (a : Int) (w : World) (lay : Lay20 w) (a0 : 0 ≤ a) (a1 : a ≤ 65535) : Calls Tryd.prog 12 #[.int .u16 a] w fun e w' => e = .returned (.int .i64 (linP a)) ∧ Kept w w' := by
  have R := hid (prow20 a w lay a0 a1)
  have F3 := fld20_3
  unfold linP
  clear lay
  go_enter Tryd.func12, Tryd.ntmps12
  go_wp2_with fail
  refine R.out.mono ?_
  rintro e u ⟨rfl, k1⟩
  have K1 := hid k1
  clear k1
  go_wp2
  go_ret
  exact ⟨rfl, K1.out⟩
set_option maxRecDepth 100000 in
set_option maxHeartbeats 4000000 in
theorem pmeet20 (a s : Int) (c : Bool) (w : World) (lay : Lay20 w) (a0 : 0 ≤ a) (a1 : a ≤ 65535) (s0 : 0 ≤ s) (s1 : s ≤ 65535) : Calls Tryd.prog 13 #[.int .u16 a, .int .u16 s, .bool c] w fun e w' => e = .returned (.bool (meetP a s c)) ∧ Kept w w' := by
  have R := hid (plin20 a w lay a0 a1)
  have S := hid (fun u (k : Kept w u) => plin20 s u (lay20_kept lay k) s0 s1)
  have h := lin_cases a a0 a1
  have E : Hid (meetP a s c = (c && (linP a == linP s && decide (linP a < 2)))) := rfl
  clear lay
  rw [E.out]
  clear E
  generalize linP a = x at *
  generalize linP s = y at *
  cases c
  · go_enter Tryd.func13, Tryd.ntmps13
    go_wp2_with fail
    refine R.out.mono ?_
    rintro e u ⟨rfl, k1⟩
    have K1 := hid k1
    clear k1
    go_wp2
    go_ret
    exact ⟨by simp, K1.out⟩
  · by_cases h2 : x = 2
    · subst h2
      go_enter Tryd.func13, Tryd.ntmps13
      go_wp2_with fail
      refine R.out.mono ?_
      rintro e u ⟨rfl, k1⟩
      have K1 := hid k1
      clear k1
      go_wp2
      go_ret
      exact ⟨by simp, K1.out⟩
    · have g2 : (x != 2) = true := by simpa using h2
      have g3 : decide (x < 2) = true := decide_eq_true (by omega)
      have E : Hid ((true && (x == y && decide (x < 2))) = (x == y)) := by show _ = _; rw [g3]; simp
      go_enter Tryd.func13, Tryd.ntmps13
      go_wp2_with fail
      refine R.out.mono ?_
      rintro e u ⟨rfl, k1⟩
      have K1 := hid k1
      clear k1
      go_wp2_with fail
      refine (S.out _ K1.out).mono ?_
      rintro e u2 ⟨rfl, k2⟩
      have K2 := hid (K1.out.trans k2)
      clear k2
      go_wp2
      go_ret
      exact ⟨by rw [E.out]; rfl, K2.out⟩
end Go.Proofs.YtfndpikcodjajabDoor
