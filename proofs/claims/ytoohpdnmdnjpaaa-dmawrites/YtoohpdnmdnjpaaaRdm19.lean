/- What the document's answers of layer 19 come to. -/
import Derived.Test.YtoohpdnmdnjpaaaDm19
import Derived.Test.YtoohpdnmdnjpaaaK8
import Derived.Test.YtoohpdnmdnjpaaaBk
import Derived.Test.YtoohpdnmdnjpaaaChecked
import Derived.Handy
import Derived.Deep.RegionHeld3
namespace Go.Proofs.Ytoohpdnmdnjpaaa
open Go.RowKit
set_option linter.unusedVariables false
set_option linter.unusedSimpArgs false

abbrev dmV (s : Dm) : Value := .agg #[.bool s.on, .int .u8 s.page, .int .u8 s.pos, .int .u8 s.wait, .int .u8 s.next]
set_option maxRecDepth 100000 in
set_option maxHeartbeats 4000000 in
theorem rwrite19 (s : Dm) (v : Int) (w : World) : Calls Try.prog 10 #[dmV s, .int .u8 v] w fun e w' => e = .returned (dmV (askD s v)) ∧ Kept w w' := by
  obtain ⟨so, sp, sa, sw, sn⟩ := s
  go_enter Try.func10, Try.ntmps10
  go_wp2
  exact bodyPost_ret (v := dmV ⟨so, sp, sa, 2, v⟩) (by simp [results, Try.results10, go_sem]) rfl ⟨rfl, by repeat (first | with_reducible exact Kept.refl _ | with_reducible refine Kept.alloc ?_ _ | with_reducible refine Kept.drew ?_ | (with_reducible refine Kept.setCell8 ?_ ?_ _ _; rotate_left; (first | exact Nat.le_refl _ | omega | (simp; done) | (simp; omega))))⟩
set_option maxRecDepth 100000 in
set_option maxHeartbeats 4000000 in
theorem rread19 (s : Dm) (w : World) : Calls Try.prog 12 #[dmV s] w fun e w' => e = .returned (.int .u8 s.next) ∧ Kept w w' := by
  obtain ⟨so, sp, sa, sw, sn⟩ := s
  go_enter Try.func12, Try.ntmps12
  go_wp2
  go_ret
  exact ⟨rfl, (Kept.refl w).alloc _⟩
set_option maxRecDepth 100000 in
set_option maxHeartbeats 4000000 in
theorem rsrc19 (p a : Int) (w : World) (p0 : 0 ≤ p) (p1 : p ≤ 255) (a0 : 0 ≤ a) (a1 : a ≤ 255) : Calls Try.prog 14 #[.int .u8 p, .int .u8 a] w fun e w' => e = .returned (.int .u16 (srcD p a)) ∧ w' = w := by
  unfold srcD
  have e1 : IntKind.i64.wrap p = p := by rw [IntKind.wrap_i64]; omega
  have e2 : IntKind.i64.wrap (256 * p) = 256 * p := by rw [IntKind.wrap_i64]; omega
  have e3 : IntKind.i64.wrap a = a := by rw [IntKind.wrap_i64]; omega
  have e4 : IntKind.i64.wrap (256 * p + a) = 256 * p + a := by rw [IntKind.wrap_i64]; omega
  have e5 : IntKind.u16.wrap (256 * p + a) = 256 * p + a := by rw [IntKind.wrap_u16]; omega
  by_cases h : 224 ≤ p
  · rw [if_pos h]
    have g : decide (224 ≤ p) = true := decide_eq_true h
    have e8 : IntKind.u16.wrap (256 * p + a - 8192) = 256 * p + a - 8192 := by rw [IntKind.wrap_u16]; omega
    have e9 : IntKind.i64.wrap (256 * p + a - 8192) = 256 * p + a - 8192 := by rw [IntKind.wrap_i64]; omega
    go_enter Try.func14, Try.ntmps14
    go_wp2
    go_ret
    exact ⟨rfl, rfl⟩
  · rw [if_neg h]
    have g : decide (224 ≤ p) = false := decide_eq_false h
    go_enter Try.func14, Try.ntmps14
    go_wp2
    go_ret
    exact ⟨rfl, rfl⟩
set_option maxRecDepth 100000 in
set_option maxHeartbeats 4000000 in
theorem rst19_x0 (s : Dm) (w : World) (I : DmIn s) (ho : s.on = false) (hw : s.wait = 0) : Calls Try.prog 16 #[dmV s] w fun e w' => e = .returned (.tuple #[dmV (stepD s), .int .u16 (fromD s), .int .u8 (toD s), .bool s.on]) ∧ Kept w w' := by
  have E1 : fromD s = 0 := by unfold fromD; rw [if_neg (by rw [ho]; decide)]
  have E2 : toD s = 0 := by unfold toD; rw [if_neg (by rw [ho]; decide)]
  have G : goD s = ⟨s.on, s.page, s.pos, s.wait, s.next⟩ := by
    unfold goD
    rw [if_neg (by rw [ho]; decide)]
  have E : stepD s = ⟨false, s.page, s.pos, 0, s.next⟩ := by
    unfold stepD
    rw [G]
    unfold comeD
    rw [if_pos (show s.wait = 0 from hw), hw, ho]
  rw [E, E1, E2, ho]
  clear E E1 E2 G
  obtain ⟨so, sp, sa, sw, sn⟩ := s
  have p0 := I.p0
  have p1 := I.p1
  have a0 := I.a0
  have a1 := I.a1
  have w0 := I.w0
  have w1 := I.w1
  have n0 := I.n0
  have n1 := I.n1
  simp only at p0 p1 a0 a1 w0 w1 n0 n1
  try simp only at *
  subst ho
  subst hw
  clear I
  go_enter Try.func16, Try.ntmps16
  go_wp2
  exact bodyPost_ret (v := .tuple #[dmV ⟨false, sp, sa, 0, sn⟩, .int .u16 0, .int .u8 0, .bool false]) (by simp [results, Try.results16, go_sem]) rfl ⟨rfl, by repeat (first | with_reducible exact Kept.refl _ | with_reducible refine Kept.alloc ?_ _ | with_reducible refine Kept.drew ?_ | (with_reducible refine Kept.setCell8 ?_ ?_ _ _; rotate_left; (first | exact Nat.le_refl _ | omega | (simp; done) | (simp; omega))))⟩
set_option maxRecDepth 100000 in
set_option maxHeartbeats 4000000 in
theorem rst19_x1 (s : Dm) (w : World) (I : DmIn s) (ho : s.on = false) (hw : s.wait = 1) : Calls Try.prog 16 #[dmV s] w fun e w' => e = .returned (.tuple #[dmV (stepD s), .int .u16 (fromD s), .int .u8 (toD s), .bool s.on]) ∧ Kept w w' := by
  have E1 : fromD s = 0 := by unfold fromD; rw [if_neg (by rw [ho]; decide)]
  have E2 : toD s = 0 := by unfold toD; rw [if_neg (by rw [ho]; decide)]
  have G : goD s = ⟨s.on, s.page, s.pos, s.wait, s.next⟩ := by
    unfold goD
    rw [if_neg (by rw [ho]; decide)]
  have E : stepD s = ⟨true, s.next, 0, 0, s.next⟩ := by
    unfold stepD
    rw [G]
    unfold comeD nearD
    rw [if_neg (show ¬ s.wait = 0 by omega), if_pos (show s.wait = 1 from hw)]
  rw [E, E1, E2, ho]
  clear E E1 E2 G
  obtain ⟨so, sp, sa, sw, sn⟩ := s
  have p0 := I.p0
  have p1 := I.p1
  have a0 := I.a0
  have a1 := I.a1
  have w0 := I.w0
  have w1 := I.w1
  have n0 := I.n0
  have n1 := I.n1
  simp only at p0 p1 a0 a1 w0 w1 n0 n1
  try simp only at *
  subst ho
  subst hw
  clear I
  go_enter Try.func16, Try.ntmps16
  go_wp2
  exact bodyPost_ret (v := .tuple #[dmV ⟨true, sn, 0, 0, sn⟩, .int .u16 0, .int .u8 0, .bool false]) (by simp [results, Try.results16, go_sem]) rfl ⟨rfl, by repeat (first | with_reducible exact Kept.refl _ | with_reducible refine Kept.alloc ?_ _ | with_reducible refine Kept.drew ?_ | (with_reducible refine Kept.setCell8 ?_ ?_ _ _; rotate_left; (first | exact Nat.le_refl _ | omega | (simp; done) | (simp; omega))))⟩
set_option maxRecDepth 100000 in
set_option maxHeartbeats 4000000 in
theorem rst19_xn (s : Dm) (w : World) (I : DmIn s) (ho : s.on = false) (hw : s.wait ≠ 0) (hw1 : s.wait ≠ 1) : Calls Try.prog 16 #[dmV s] w fun e w' => e = .returned (.tuple #[dmV (stepD s), .int .u16 (fromD s), .int .u8 (toD s), .bool s.on]) ∧ Kept w w' := by
  have E1 : fromD s = 0 := by unfold fromD; rw [if_neg (by rw [ho]; decide)]
  have E2 : toD s = 0 := by unfold toD; rw [if_neg (by rw [ho]; decide)]
  have G : goD s = ⟨s.on, s.page, s.pos, s.wait, s.next⟩ := by
    unfold goD
    rw [if_neg (by rw [ho]; decide)]
  have E : stepD s = ⟨false, s.page, s.pos, (s.wait - 1), s.next⟩ := by
    unfold stepD
    rw [G]
    unfold comeD nearD
    rw [if_neg (show ¬ s.wait = 0 by omega), if_neg (show ¬ s.wait = 1 from hw1), ho]
  rw [E, E1, E2, ho]
  clear E E1 E2 G
  obtain ⟨so, sp, sa, sw, sn⟩ := s
  have p0 := I.p0
  have p1 := I.p1
  have a0 := I.a0
  have a1 := I.a1
  have w0 := I.w0
  have w1 := I.w1
  have n0 := I.n0
  have n1 := I.n1
  simp only at p0 p1 a0 a1 w0 w1 n0 n1
  try simp only at *
  subst ho
  have g4 : decide (0 < sw) = true := decide_eq_true (by omega)
  have g5 : IntKind.u8.wrap (sw - 1) = sw - 1 := by rw [IntKind.wrap_u8]; omega
  have g6 : (sw - 1 == 0) = false := by simp; omega
  clear I
  go_enter Try.func16, Try.ntmps16
  go_wp2
  exact bodyPost_ret (v := .tuple #[dmV ⟨false, sp, sa, (sw - 1), sn⟩, .int .u16 0, .int .u8 0, .bool false]) (by simp [results, Try.results16, go_sem]) rfl ⟨rfl, by repeat (first | with_reducible exact Kept.refl _ | with_reducible refine Kept.alloc ?_ _ | with_reducible refine Kept.drew ?_ | (with_reducible refine Kept.setCell8 ?_ ?_ _ _; rotate_left; (first | exact Nat.le_refl _ | omega | (simp; done) | (simp; omega))))⟩
set_option maxRecDepth 100000 in
set_option maxHeartbeats 4000000 in
theorem rst19_l0 (s : Dm) (w : World) (I : DmIn s) (ho : s.on = true) (hp : s.pos < 159) (hw : s.wait = 0) : Calls Try.prog 16 #[dmV s] w fun e w' => e = .returned (.tuple #[dmV (stepD s), .int .u16 (fromD s), .int .u8 (toD s), .bool s.on]) ∧ Kept w w' := by
  have PL : plcD s.pos = s.pos := by unfold plcD; rw [if_neg (by omega)]
  have E1 : fromD s = srcD s.page s.pos := by unfold fromD; rw [if_pos ho, PL]
  have E2 : toD s = s.pos := by unfold toD; rw [if_pos ho, PL]
  have HS := hid (fun u => rsrc19 s.page s.pos u I.p0 I.p1 I.a0 I.a1)
  have G : goD s = ⟨s.on, s.page, (s.pos + 1), s.wait, s.next⟩ := by
    unfold goD furD
    rw [if_pos ho, if_neg (by omega)]
  have E : stepD s = ⟨true, s.page, (s.pos + 1), 0, s.next⟩ := by
    unfold stepD
    rw [G]
    unfold comeD
    rw [if_pos (show s.wait = 0 from hw), hw, ho]
  rw [E, E1, E2, ho]
  clear E E1 E2 G PL
  generalize srcD s.page s.pos = S at *
  obtain ⟨so, sp, sa, sw, sn⟩ := s
  have p0 := I.p0
  have p1 := I.p1
  have a0 := I.a0
  have a1 := I.a1
  have w0 := I.w0
  have w1 := I.w1
  have n0 := I.n0
  have n1 := I.n1
  simp only at p0 p1 a0 a1 w0 w1 n0 n1
  try simp only at *
  subst ho
  have g1 : decide (159 < sa) = false := decide_eq_false (by omega)
  have g2 : (sa == 159) = false := by simp; omega
  have g3 : IntKind.u8.wrap (sa + 1) = sa + 1 := by rw [IntKind.wrap_u8]; omega
  subst hw
  clear I
  go_enter Try.func16, Try.ntmps16
  go_wp2_with fail
  refine (HS.out _).mono ?_
  rintro e ux ⟨rfl, rfl⟩
  go_wp2
  exact bodyPost_ret (v := .tuple #[dmV ⟨true, sp, (sa + 1), 0, sn⟩, .int .u16 S, .int .u8 sa, .bool true]) (by simp [results, Try.results16, go_sem]) rfl ⟨rfl, by repeat (first | with_reducible exact Kept.refl _ | with_reducible refine Kept.alloc ?_ _ | with_reducible refine Kept.drew ?_ | (with_reducible refine Kept.setCell8 ?_ ?_ _ _; rotate_left; (first | exact Nat.le_refl _ | omega | (simp; done) | (simp; omega))))⟩
set_option maxRecDepth 100000 in
set_option maxHeartbeats 4000000 in
theorem rst19_l1 (s : Dm) (w : World) (I : DmIn s) (ho : s.on = true) (hp : s.pos < 159) (hw : s.wait = 1) : Calls Try.prog 16 #[dmV s] w fun e w' => e = .returned (.tuple #[dmV (stepD s), .int .u16 (fromD s), .int .u8 (toD s), .bool s.on]) ∧ Kept w w' := by
  have PL : plcD s.pos = s.pos := by unfold plcD; rw [if_neg (by omega)]
  have E1 : fromD s = srcD s.page s.pos := by unfold fromD; rw [if_pos ho, PL]
  have E2 : toD s = s.pos := by unfold toD; rw [if_pos ho, PL]
  have HS := hid (fun u => rsrc19 s.page s.pos u I.p0 I.p1 I.a0 I.a1)
  have G : goD s = ⟨s.on, s.page, (s.pos + 1), s.wait, s.next⟩ := by
    unfold goD furD
    rw [if_pos ho, if_neg (by omega)]
  have E : stepD s = ⟨true, s.next, 0, 0, s.next⟩ := by
    unfold stepD
    rw [G]
    unfold comeD nearD
    rw [if_neg (show ¬ s.wait = 0 by omega), if_pos (show s.wait = 1 from hw)]
  rw [E, E1, E2, ho]
  clear E E1 E2 G PL
  generalize srcD s.page s.pos = S at *
  obtain ⟨so, sp, sa, sw, sn⟩ := s
  have p0 := I.p0
  have p1 := I.p1
  have a0 := I.a0
  have a1 := I.a1
  have w0 := I.w0
  have w1 := I.w1
  have n0 := I.n0
  have n1 := I.n1
  simp only at p0 p1 a0 a1 w0 w1 n0 n1
  try simp only at *
  subst ho
  have g1 : decide (159 < sa) = false := decide_eq_false (by omega)
  have g2 : (sa == 159) = false := by simp; omega
  have g3 : IntKind.u8.wrap (sa + 1) = sa + 1 := by rw [IntKind.wrap_u8]; omega
  subst hw
  clear I
  go_enter Try.func16, Try.ntmps16
  go_wp2_with fail
  refine (HS.out _).mono ?_
  rintro e ux ⟨rfl, rfl⟩
  go_wp2
  exact bodyPost_ret (v := .tuple #[dmV ⟨true, sn, 0, 0, sn⟩, .int .u16 S, .int .u8 sa, .bool true]) (by simp [results, Try.results16, go_sem]) rfl ⟨rfl, by repeat (first | with_reducible exact Kept.refl _ | with_reducible refine Kept.alloc ?_ _ | with_reducible refine Kept.drew ?_ | (with_reducible refine Kept.setCell8 ?_ ?_ _ _; rotate_left; (first | exact Nat.le_refl _ | omega | (simp; done) | (simp; omega))))⟩
set_option maxRecDepth 100000 in
set_option maxHeartbeats 4000000 in
theorem rst19_ln (s : Dm) (w : World) (I : DmIn s) (ho : s.on = true) (hp : s.pos < 159) (hw : s.wait ≠ 0) (hw1 : s.wait ≠ 1) : Calls Try.prog 16 #[dmV s] w fun e w' => e = .returned (.tuple #[dmV (stepD s), .int .u16 (fromD s), .int .u8 (toD s), .bool s.on]) ∧ Kept w w' := by
  have PL : plcD s.pos = s.pos := by unfold plcD; rw [if_neg (by omega)]
  have E1 : fromD s = srcD s.page s.pos := by unfold fromD; rw [if_pos ho, PL]
  have E2 : toD s = s.pos := by unfold toD; rw [if_pos ho, PL]
  have HS := hid (fun u => rsrc19 s.page s.pos u I.p0 I.p1 I.a0 I.a1)
  have G : goD s = ⟨s.on, s.page, (s.pos + 1), s.wait, s.next⟩ := by
    unfold goD furD
    rw [if_pos ho, if_neg (by omega)]
  have E : stepD s = ⟨true, s.page, (s.pos + 1), (s.wait - 1), s.next⟩ := by
    unfold stepD
    rw [G]
    unfold comeD nearD
    rw [if_neg (show ¬ s.wait = 0 by omega), if_neg (show ¬ s.wait = 1 from hw1), ho]
  rw [E, E1, E2, ho]
  clear E E1 E2 G PL
  generalize srcD s.page s.pos = S at *
  obtain ⟨so, sp, sa, sw, sn⟩ := s
  have p0 := I.p0
  have p1 := I.p1
  have a0 := I.a0
  have a1 := I.a1
  have w0 := I.w0
  have w1 := I.w1
  have n0 := I.n0
  have n1 := I.n1
  simp only at p0 p1 a0 a1 w0 w1 n0 n1
  try simp only at *
  subst ho
  have g1 : decide (159 < sa) = false := decide_eq_false (by omega)
  have g2 : (sa == 159) = false := by simp; omega
  have g3 : IntKind.u8.wrap (sa + 1) = sa + 1 := by rw [IntKind.wrap_u8]; omega
  have g4 : decide (0 < sw) = true := decide_eq_true (by omega)
  have g5 : IntKind.u8.wrap (sw - 1) = sw - 1 := by rw [IntKind.wrap_u8]; omega
  have g6 : (sw - 1 == 0) = false := by simp; omega
  clear I
  go_enter Try.func16, Try.ntmps16
  go_wp2_with fail
  refine (HS.out _).mono ?_
  rintro e ux ⟨rfl, rfl⟩
  go_wp2
  exact bodyPost_ret (v := .tuple #[dmV ⟨true, sp, (sa + 1), (sw - 1), sn⟩, .int .u16 S, .int .u8 sa, .bool true]) (by simp [results, Try.results16, go_sem]) rfl ⟨rfl, by repeat (first | with_reducible exact Kept.refl _ | with_reducible refine Kept.alloc ?_ _ | with_reducible refine Kept.drew ?_ | (with_reducible refine Kept.setCell8 ?_ ?_ _ _; rotate_left; (first | exact Nat.le_refl _ | omega | (simp; done) | (simp; omega))))⟩
set_option maxRecDepth 100000 in
set_option maxHeartbeats 4000000 in
theorem rst19_e0 (s : Dm) (w : World) (I : DmIn s) (ho : s.on = true) (hp : s.pos = 159) (hw : s.wait = 0) : Calls Try.prog 16 #[dmV s] w fun e w' => e = .returned (.tuple #[dmV (stepD s), .int .u16 (fromD s), .int .u8 (toD s), .bool s.on]) ∧ Kept w w' := by
  have PL : plcD s.pos = 159 := by unfold plcD; rw [if_neg (by omega), hp]
  have E1 : fromD s = srcD s.page 159 := by unfold fromD; rw [if_pos ho, PL]
  have E2 : toD s = 159 := by unfold toD; rw [if_pos ho, PL]
  have HS := hid (fun u => rsrc19 s.page 159 u I.p0 I.p1 (by decide) (by decide))
  have G : goD s = ⟨false, s.page, 0, s.wait, s.next⟩ := by
    unfold goD furD
    rw [if_pos ho, if_pos (by omega)]
  have E : stepD s = ⟨false, s.page, 0, 0, s.next⟩ := by
    unfold stepD
    rw [G]
    unfold comeD
    rw [if_pos (show s.wait = 0 from hw), hw]
  rw [E, E1, E2, ho]
  clear E E1 E2 G PL
  generalize srcD s.page 159 = S at *
  obtain ⟨so, sp, sa, sw, sn⟩ := s
  have p0 := I.p0
  have p1 := I.p1
  have a0 := I.a0
  have a1 := I.a1
  have w0 := I.w0
  have w1 := I.w1
  have n0 := I.n0
  have n1 := I.n1
  simp only at p0 p1 a0 a1 w0 w1 n0 n1
  try simp only at *
  subst ho
  subst hp
  subst hw
  clear I
  go_enter Try.func16, Try.ntmps16
  go_wp2_with fail
  refine (HS.out _).mono ?_
  rintro e ux ⟨rfl, rfl⟩
  go_wp2
  exact bodyPost_ret (v := .tuple #[dmV ⟨false, sp, 0, 0, sn⟩, .int .u16 S, .int .u8 159, .bool true]) (by simp [results, Try.results16, go_sem]) rfl ⟨rfl, by repeat (first | with_reducible exact Kept.refl _ | with_reducible refine Kept.alloc ?_ _ | with_reducible refine Kept.drew ?_ | (with_reducible refine Kept.setCell8 ?_ ?_ _ _; rotate_left; (first | exact Nat.le_refl _ | omega | (simp; done) | (simp; omega))))⟩
set_option maxRecDepth 100000 in
set_option maxHeartbeats 4000000 in
theorem rst19_e1 (s : Dm) (w : World) (I : DmIn s) (ho : s.on = true) (hp : s.pos = 159) (hw : s.wait = 1) : Calls Try.prog 16 #[dmV s] w fun e w' => e = .returned (.tuple #[dmV (stepD s), .int .u16 (fromD s), .int .u8 (toD s), .bool s.on]) ∧ Kept w w' := by
  have PL : plcD s.pos = 159 := by unfold plcD; rw [if_neg (by omega), hp]
  have E1 : fromD s = srcD s.page 159 := by unfold fromD; rw [if_pos ho, PL]
  have E2 : toD s = 159 := by unfold toD; rw [if_pos ho, PL]
  have HS := hid (fun u => rsrc19 s.page 159 u I.p0 I.p1 (by decide) (by decide))
  have G : goD s = ⟨false, s.page, 0, s.wait, s.next⟩ := by
    unfold goD furD
    rw [if_pos ho, if_pos (by omega)]
  have E : stepD s = ⟨true, s.next, 0, 0, s.next⟩ := by
    unfold stepD
    rw [G]
    unfold comeD nearD
    rw [if_neg (show ¬ s.wait = 0 by omega), if_pos (show s.wait = 1 from hw)]
  rw [E, E1, E2, ho]
  clear E E1 E2 G PL
  generalize srcD s.page 159 = S at *
  obtain ⟨so, sp, sa, sw, sn⟩ := s
  have p0 := I.p0
  have p1 := I.p1
  have a0 := I.a0
  have a1 := I.a1
  have w0 := I.w0
  have w1 := I.w1
  have n0 := I.n0
  have n1 := I.n1
  simp only at p0 p1 a0 a1 w0 w1 n0 n1
  try simp only at *
  subst ho
  subst hp
  subst hw
  clear I
  go_enter Try.func16, Try.ntmps16
  go_wp2_with fail
  refine (HS.out _).mono ?_
  rintro e ux ⟨rfl, rfl⟩
  go_wp2
  exact bodyPost_ret (v := .tuple #[dmV ⟨true, sn, 0, 0, sn⟩, .int .u16 S, .int .u8 159, .bool true]) (by simp [results, Try.results16, go_sem]) rfl ⟨rfl, by repeat (first | with_reducible exact Kept.refl _ | with_reducible refine Kept.alloc ?_ _ | with_reducible refine Kept.drew ?_ | (with_reducible refine Kept.setCell8 ?_ ?_ _ _; rotate_left; (first | exact Nat.le_refl _ | omega | (simp; done) | (simp; omega))))⟩
set_option maxRecDepth 100000 in
set_option maxHeartbeats 4000000 in
theorem rst19_en (s : Dm) (w : World) (I : DmIn s) (ho : s.on = true) (hp : s.pos = 159) (hw : s.wait ≠ 0) (hw1 : s.wait ≠ 1) : Calls Try.prog 16 #[dmV s] w fun e w' => e = .returned (.tuple #[dmV (stepD s), .int .u16 (fromD s), .int .u8 (toD s), .bool s.on]) ∧ Kept w w' := by
  have PL : plcD s.pos = 159 := by unfold plcD; rw [if_neg (by omega), hp]
  have E1 : fromD s = srcD s.page 159 := by unfold fromD; rw [if_pos ho, PL]
  have E2 : toD s = 159 := by unfold toD; rw [if_pos ho, PL]
  have HS := hid (fun u => rsrc19 s.page 159 u I.p0 I.p1 (by decide) (by decide))
  have G : goD s = ⟨false, s.page, 0, s.wait, s.next⟩ := by
    unfold goD furD
    rw [if_pos ho, if_pos (by omega)]
  have E : stepD s = ⟨false, s.page, 0, (s.wait - 1), s.next⟩ := by
    unfold stepD
    rw [G]
    unfold comeD nearD
    rw [if_neg (show ¬ s.wait = 0 by omega), if_neg (show ¬ s.wait = 1 from hw1)]
  rw [E, E1, E2, ho]
  clear E E1 E2 G PL
  generalize srcD s.page 159 = S at *
  obtain ⟨so, sp, sa, sw, sn⟩ := s
  have p0 := I.p0
  have p1 := I.p1
  have a0 := I.a0
  have a1 := I.a1
  have w0 := I.w0
  have w1 := I.w1
  have n0 := I.n0
  have n1 := I.n1
  simp only at p0 p1 a0 a1 w0 w1 n0 n1
  try simp only at *
  subst ho
  subst hp
  have g4 : decide (0 < sw) = true := decide_eq_true (by omega)
  have g5 : IntKind.u8.wrap (sw - 1) = sw - 1 := by rw [IntKind.wrap_u8]; omega
  have g6 : (sw - 1 == 0) = false := by simp; omega
  clear I
  go_enter Try.func16, Try.ntmps16
  go_wp2_with fail
  refine (HS.out _).mono ?_
  rintro e ux ⟨rfl, rfl⟩
  go_wp2
  exact bodyPost_ret (v := .tuple #[dmV ⟨false, sp, 0, (sw - 1), sn⟩, .int .u16 S, .int .u8 159, .bool true]) (by simp [results, Try.results16, go_sem]) rfl ⟨rfl, by repeat (first | with_reducible exact Kept.refl _ | with_reducible refine Kept.alloc ?_ _ | with_reducible refine Kept.drew ?_ | (with_reducible refine Kept.setCell8 ?_ ?_ _ _; rotate_left; (first | exact Nat.le_refl _ | omega | (simp; done) | (simp; omega))))⟩
set_option maxRecDepth 100000 in
set_option maxHeartbeats 4000000 in
theorem rst19_g0 (s : Dm) (w : World) (I : DmIn s) (ho : s.on = true) (hp : 159 < s.pos) (hw : s.wait = 0) : Calls Try.prog 16 #[dmV s] w fun e w' => e = .returned (.tuple #[dmV (stepD s), .int .u16 (fromD s), .int .u8 (toD s), .bool s.on]) ∧ Kept w w' := by
  have PL : plcD s.pos = 159 := by unfold plcD; rw [if_pos hp]
  have E1 : fromD s = srcD s.page 159 := by unfold fromD; rw [if_pos ho, PL]
  have E2 : toD s = 159 := by unfold toD; rw [if_pos ho, PL]
  have HS := hid (fun u => rsrc19 s.page 159 u I.p0 I.p1 (by decide) (by decide))
  have G : goD s = ⟨false, s.page, 0, s.wait, s.next⟩ := by
    unfold goD furD
    rw [if_pos ho, if_pos (by omega)]
  have E : stepD s = ⟨false, s.page, 0, 0, s.next⟩ := by
    unfold stepD
    rw [G]
    unfold comeD
    rw [if_pos (show s.wait = 0 from hw), hw]
  rw [E, E1, E2, ho]
  clear E E1 E2 G PL
  generalize srcD s.page 159 = S at *
  obtain ⟨so, sp, sa, sw, sn⟩ := s
  have p0 := I.p0
  have p1 := I.p1
  have a0 := I.a0
  have a1 := I.a1
  have w0 := I.w0
  have w1 := I.w1
  have n0 := I.n0
  have n1 := I.n1
  simp only at p0 p1 a0 a1 w0 w1 n0 n1
  try simp only at *
  subst ho
  have g1 : decide (159 < sa) = true := decide_eq_true (by omega)
  subst hw
  clear I
  go_enter Try.func16, Try.ntmps16
  go_wp2_with fail
  refine (HS.out _).mono ?_
  rintro e ux ⟨rfl, rfl⟩
  go_wp2
  exact bodyPost_ret (v := .tuple #[dmV ⟨false, sp, 0, 0, sn⟩, .int .u16 S, .int .u8 159, .bool true]) (by simp [results, Try.results16, go_sem]) rfl ⟨rfl, by repeat (first | with_reducible exact Kept.refl _ | with_reducible refine Kept.alloc ?_ _ | with_reducible refine Kept.drew ?_ | (with_reducible refine Kept.setCell8 ?_ ?_ _ _; rotate_left; (first | exact Nat.le_refl _ | omega | (simp; done) | (simp; omega))))⟩
set_option maxRecDepth 100000 in
set_option maxHeartbeats 4000000 in
theorem rst19_g1 (s : Dm) (w : World) (I : DmIn s) (ho : s.on = true) (hp : 159 < s.pos) (hw : s.wait = 1) : Calls Try.prog 16 #[dmV s] w fun e w' => e = .returned (.tuple #[dmV (stepD s), .int .u16 (fromD s), .int .u8 (toD s), .bool s.on]) ∧ Kept w w' := by
  have PL : plcD s.pos = 159 := by unfold plcD; rw [if_pos hp]
  have E1 : fromD s = srcD s.page 159 := by unfold fromD; rw [if_pos ho, PL]
  have E2 : toD s = 159 := by unfold toD; rw [if_pos ho, PL]
  have HS := hid (fun u => rsrc19 s.page 159 u I.p0 I.p1 (by decide) (by decide))
  have G : goD s = ⟨false, s.page, 0, s.wait, s.next⟩ := by
    unfold goD furD
    rw [if_pos ho, if_pos (by omega)]
  have E : stepD s = ⟨true, s.next, 0, 0, s.next⟩ := by
    unfold stepD
    rw [G]
    unfold comeD nearD
    rw [if_neg (show ¬ s.wait = 0 by omega), if_pos (show s.wait = 1 from hw)]
  rw [E, E1, E2, ho]
  clear E E1 E2 G PL
  generalize srcD s.page 159 = S at *
  obtain ⟨so, sp, sa, sw, sn⟩ := s
  have p0 := I.p0
  have p1 := I.p1
  have a0 := I.a0
  have a1 := I.a1
  have w0 := I.w0
  have w1 := I.w1
  have n0 := I.n0
  have n1 := I.n1
  simp only at p0 p1 a0 a1 w0 w1 n0 n1
  try simp only at *
  subst ho
  have g1 : decide (159 < sa) = true := decide_eq_true (by omega)
  subst hw
  clear I
  go_enter Try.func16, Try.ntmps16
  go_wp2_with fail
  refine (HS.out _).mono ?_
  rintro e ux ⟨rfl, rfl⟩
  go_wp2
  exact bodyPost_ret (v := .tuple #[dmV ⟨true, sn, 0, 0, sn⟩, .int .u16 S, .int .u8 159, .bool true]) (by simp [results, Try.results16, go_sem]) rfl ⟨rfl, by repeat (first | with_reducible exact Kept.refl _ | with_reducible refine Kept.alloc ?_ _ | with_reducible refine Kept.drew ?_ | (with_reducible refine Kept.setCell8 ?_ ?_ _ _; rotate_left; (first | exact Nat.le_refl _ | omega | (simp; done) | (simp; omega))))⟩
set_option maxRecDepth 100000 in
set_option maxHeartbeats 4000000 in
theorem rst19_gn (s : Dm) (w : World) (I : DmIn s) (ho : s.on = true) (hp : 159 < s.pos) (hw : s.wait ≠ 0) (hw1 : s.wait ≠ 1) : Calls Try.prog 16 #[dmV s] w fun e w' => e = .returned (.tuple #[dmV (stepD s), .int .u16 (fromD s), .int .u8 (toD s), .bool s.on]) ∧ Kept w w' := by
  have PL : plcD s.pos = 159 := by unfold plcD; rw [if_pos hp]
  have E1 : fromD s = srcD s.page 159 := by unfold fromD; rw [if_pos ho, PL]
  have E2 : toD s = 159 := by unfold toD; rw [if_pos ho, PL]
  have HS := hid (fun u => rsrc19 s.page 159 u I.p0 I.p1 (by decide) (by decide))
  have G : goD s = ⟨false, s.page, 0, s.wait, s.next⟩ := by
    unfold goD furD
    rw [if_pos ho, if_pos (by omega)]
  have E : stepD s = ⟨false, s.page, 0, (s.wait - 1), s.next⟩ := by
    unfold stepD
    rw [G]
    unfold comeD nearD
    rw [if_neg (show ¬ s.wait = 0 by omega), if_neg (show ¬ s.wait = 1 from hw1)]
  rw [E, E1, E2, ho]
  clear E E1 E2 G PL
  generalize srcD s.page 159 = S at *
  obtain ⟨so, sp, sa, sw, sn⟩ := s
  have p0 := I.p0
  have p1 := I.p1
  have a0 := I.a0
  have a1 := I.a1
  have w0 := I.w0
  have w1 := I.w1
  have n0 := I.n0
  have n1 := I.n1
  simp only at p0 p1 a0 a1 w0 w1 n0 n1
  try simp only at *
  subst ho
  have g1 : decide (159 < sa) = true := decide_eq_true (by omega)
  have g4 : decide (0 < sw) = true := decide_eq_true (by omega)
  have g5 : IntKind.u8.wrap (sw - 1) = sw - 1 := by rw [IntKind.wrap_u8]; omega
  have g6 : (sw - 1 == 0) = false := by simp; omega
  clear I
  go_enter Try.func16, Try.ntmps16
  go_wp2_with fail
  refine (HS.out _).mono ?_
  rintro e ux ⟨rfl, rfl⟩
  go_wp2
  exact bodyPost_ret (v := .tuple #[dmV ⟨false, sp, 0, (sw - 1), sn⟩, .int .u16 S, .int .u8 159, .bool true]) (by simp [results, Try.results16, go_sem]) rfl ⟨rfl, by repeat (first | with_reducible exact Kept.refl _ | with_reducible refine Kept.alloc ?_ _ | with_reducible refine Kept.drew ?_ | (with_reducible refine Kept.setCell8 ?_ ?_ _ _; rotate_left; (first | exact Nat.le_refl _ | omega | (simp; done) | (simp; omega))))⟩
theorem rstep19 (s : Dm) (w : World) (I : DmIn s) : Calls Try.prog 16 #[dmV s] w fun e w' => e = .returned (.tuple #[dmV (stepD s), .int .u16 (fromD s), .int .u8 (toD s), .bool s.on]) ∧ Kept w w' := by
  cases ho : s.on
  · rw [← ho]
    by_cases hw : s.wait = 0
    · exact rst19_x0 s w I ho hw
    by_cases hw1 : s.wait = 1
    · exact rst19_x1 s w I ho hw1
    · exact rst19_xn s w I ho hw hw1
  · rw [← ho]
    by_cases hp : s.pos < 159
    · skip
      by_cases hw : s.wait = 0
      · exact rst19_l0 s w I ho hp hw
      by_cases hw1 : s.wait = 1
      · exact rst19_l1 s w I ho hp hw1
      · exact rst19_ln s w I ho hp hw hw1
    by_cases hp : s.pos = 159
    · skip
      by_cases hw : s.wait = 0
      · exact rst19_e0 s w I ho hp hw
      by_cases hw1 : s.wait = 1
      · exact rst19_e1 s w I ho hp hw1
      · exact rst19_en s w I ho hp hw hw1
    have hp : 159 < s.pos := by omega
    by_cases hw : s.wait = 0
    · exact rst19_g0 s w I ho hp hw
    by_cases hw1 : s.wait = 1
    · exact rst19_g1 s w I ho hp hw1
    · exact rst19_gn s w I ho hp hw hw1
end Go.Proofs.Ytoohpdnmdnjpaaa
