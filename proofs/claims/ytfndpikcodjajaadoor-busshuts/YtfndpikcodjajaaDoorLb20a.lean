/- Layer 20's laws: Regions, Shuts, Meets, Places. -/
import Derived.Test.YtfndpikcodjajaaDoorSw20
import Derived.Test.YtfndpikcodjajaaDoorRb20a
namespace Go.Proofs.YtfndpikcodjajaaDoor
open Go.RowKit
set_option linter.unusedVariables false
set_option linter.unusedSimpArgs false

set_option maxRecDepth 100000 in
set_option maxHeartbeats 4000000 in
theorem regions20 (a : Int) (w : World) (lay : Lay20 w) (a0 : 0 ≤ a) (a1 : a ≤ 65535) : Calls Tryd.prog 3 #[.int .u16 a] w fun e w' => e = .returned (.bool true) ∧ Kept w w' := by
  have LY : Hid (∀ u, Kept w u → Lay20 u) := fun u k => lay20_kept lay k
  have SH := hid (kshown20 w lay)
  clear lay
  have R1 := hid (fun u l => preg20 a u l a0 a1)
  have R2 := hid (fun u => rreg20 a u a0 a1)
  have N1 := hid (fun u l => plin20 a u l a0 a1)
  have N2 := hid (fun u => rlin20 a u a0 a1)
  generalize regP a = r at *
  generalize atP20 a = x at *
  generalize linP a = y at *
  go_enter Tryd.func3, Tryd.ntmps3
  go_wp2_with fail
  refine SH.out.mono ?_
  rintro e u0 ⟨rfl, k0⟩
  have K0 := hid k0
  clear k0 SH
  go_wp2_with fail
  refine (R1.out _ (LY.out _ K0.out)).mono ?_
  rintro e u1 ⟨rfl, k1⟩
  have K1 := hid (K0.out.trans k1)
  clear k1
  go_wp2_with fail
  refine (R2.out _).mono ?_
  rintro e u2 ⟨rfl, e2⟩
  subst e2
  have K2 := K1
  go_wp2_with fail
  refine (N1.out _ (LY.out _ K2.out)).mono ?_
  rintro e u3 ⟨rfl, k3⟩
  have K3 := hid (K2.out.trans k3)
  clear k3
  go_wp2_with fail
  refine (N2.out _).mono ?_
  rintro e u4 ⟨rfl, e4⟩
  subst e4
  have K4 := K3
  go_wp2
  go_ret
  exact ⟨rfl, K4.out⟩
set_option maxRecDepth 100000 in
set_option maxHeartbeats 4000000 in
theorem shuts20 (a : Int) (v o c : Bool) (w : World) (lay : Lay20 w) (a0 : 0 ≤ a) (a1 : a ≤ 65535) : Calls Tryd.prog 4 #[.int .u16 a, .bool v, .bool o, .bool c] w fun e w' => e = .returned (.bool true) ∧ Kept w w' := by
  have LY : Hid (∀ u, Kept w u → Lay20 u) := fun u k => lay20_kept lay k
  have SH := hid (kshown20 w lay)
  clear lay
  have R1 := hid (fun u l => pshut20 a v o c u l a0 a1)
  have R2 := hid (fun u => rshut20 a v o c u a0 a1)
  generalize shutP a v o c = r at *
  go_enter Tryd.func4, Tryd.ntmps4
  go_wp2_with fail
  refine SH.out.mono ?_
  rintro e u0 ⟨rfl, k0⟩
  have K0 := hid k0
  clear k0 SH
  go_wp2_with fail
  refine (R1.out _ (LY.out _ K0.out)).mono ?_
  rintro e u1 ⟨rfl, k1⟩
  have K1 := hid (K0.out.trans k1)
  clear k1
  go_wp2_with fail
  refine (R2.out _).mono ?_
  rintro e u2 ⟨rfl, e2⟩
  subst e2
  have K2 := K1
  go_wp2
  go_ret
  exact ⟨rfl, K2.out⟩
set_option maxRecDepth 100000 in
set_option maxHeartbeats 4000000 in
theorem meets20 (a s : Int) (c : Bool) (w : World) (lay : Lay20 w) (a0 : 0 ≤ a) (a1 : a ≤ 65535) (s0 : 0 ≤ s) (s1 : s ≤ 65535) : Calls Tryd.prog 5 #[.int .u16 a, .int .u16 s, .bool c] w fun e w' => e = .returned (.bool true) ∧ Kept w w' := by
  have LY : Hid (∀ u, Kept w u → Lay20 u) := fun u k => lay20_kept lay k
  have SH := hid (kshown20 w lay)
  clear lay
  have R1 := hid (fun u l => pmeet20 a s c u l a0 a1 s0 s1)
  have R2 := hid (fun u => rmeet20 a s c u a0 a1 s0 s1)
  generalize meetP a s c = r at *
  go_enter Tryd.func5, Tryd.ntmps5
  go_wp2_with fail
  refine SH.out.mono ?_
  rintro e u0 ⟨rfl, k0⟩
  have K0 := hid k0
  clear k0 SH
  go_wp2_with fail
  refine (R1.out _ (LY.out _ K0.out)).mono ?_
  rintro e u1 ⟨rfl, k1⟩
  have K1 := hid (K0.out.trans k1)
  clear k1
  go_wp2_with fail
  refine (R2.out _).mono ?_
  rintro e u2 ⟨rfl, e2⟩
  subst e2
  have K2 := K1
  go_wp2
  go_ret
  exact ⟨rfl, K2.out⟩
theorem pl_next (a : Int) (a0 : 0 ≤ a) (a1 : a < 65535) : (regP (a + 1) = regP a ∧ atP20 (a + 1) = atP20 a + 1) ∨ (regP a < regP (a + 1) ∧ atP20 (a + 1) = 0) ∨ (regP a = 3 ∧ regP (a + 1) = 3 ∧ atP20 a = 8191 ∧ atP20 (a + 1) = 0) := by
  unfold regP atP20
  rcases rw_cases a a0 (by omega) with ⟨h, q0, q1⟩ | ⟨h, q0, q1⟩ | ⟨h, q0, q1⟩ | ⟨h, q0, q1⟩ | ⟨h, q0, q1⟩ | ⟨h, q0, q1⟩ | ⟨h, q0, q1⟩ | ⟨h, q0, q1⟩ | ⟨h, q0, q1⟩ | ⟨h, q0, q1⟩
  · by_cases c : a = 32767
    · subst c
      exact .inr (.inl ⟨by decide, by decide⟩)
    · have e : rwK (a + 1) = 0 := by
        rcases rw_cases (a + 1) (by omega) (by omega) with ⟨e, p0, p1⟩ | ⟨e, p0, p1⟩ | ⟨e, p0, p1⟩ | ⟨e, p0, p1⟩ | ⟨e, p0, p1⟩ | ⟨e, p0, p1⟩ | ⟨e, p0, p1⟩ | ⟨e, p0, p1⟩ | ⟨e, p0, p1⟩ | ⟨e, p0, p1⟩
        all_goals first | exact e | omega
      rw [e, h]
      exact .inl ⟨rfl, by show a + 1 - 0 = a - 0 + 1; omega⟩
  · by_cases c : a = 40959
    · subst c
      exact .inr (.inl ⟨by decide, by decide⟩)
    · have e : rwK (a + 1) = 1 := by
        rcases rw_cases (a + 1) (by omega) (by omega) with ⟨e, p0, p1⟩ | ⟨e, p0, p1⟩ | ⟨e, p0, p1⟩ | ⟨e, p0, p1⟩ | ⟨e, p0, p1⟩ | ⟨e, p0, p1⟩ | ⟨e, p0, p1⟩ | ⟨e, p0, p1⟩ | ⟨e, p0, p1⟩ | ⟨e, p0, p1⟩
        all_goals first | exact e | omega
      rw [e, h]
      exact .inl ⟨rfl, by show a + 1 - 32768 = a - 32768 + 1; omega⟩
  · by_cases c : a = 49151
    · subst c
      exact .inr (.inl ⟨by decide, by decide⟩)
    · have e : rwK (a + 1) = 2 := by
        rcases rw_cases (a + 1) (by omega) (by omega) with ⟨e, p0, p1⟩ | ⟨e, p0, p1⟩ | ⟨e, p0, p1⟩ | ⟨e, p0, p1⟩ | ⟨e, p0, p1⟩ | ⟨e, p0, p1⟩ | ⟨e, p0, p1⟩ | ⟨e, p0, p1⟩ | ⟨e, p0, p1⟩ | ⟨e, p0, p1⟩
        all_goals first | exact e | omega
      rw [e, h]
      exact .inl ⟨rfl, by show a + 1 - 40960 = a - 40960 + 1; omega⟩
  · by_cases c : a = 57343
    · subst c
      exact .inr (.inr ⟨rfl, rfl, rfl, rfl⟩)
    · have e : rwK (a + 1) = 3 := by
        rcases rw_cases (a + 1) (by omega) (by omega) with ⟨e, p0, p1⟩ | ⟨e, p0, p1⟩ | ⟨e, p0, p1⟩ | ⟨e, p0, p1⟩ | ⟨e, p0, p1⟩ | ⟨e, p0, p1⟩ | ⟨e, p0, p1⟩ | ⟨e, p0, p1⟩ | ⟨e, p0, p1⟩ | ⟨e, p0, p1⟩
        all_goals first | exact e | omega
      rw [e, h]
      exact .inl ⟨rfl, by show a + 1 - 49152 = a - 49152 + 1; omega⟩
  · by_cases c : a = 65023
    · subst c
      exact .inr (.inl ⟨by decide, by decide⟩)
    · have e : rwK (a + 1) = 4 := by
        rcases rw_cases (a + 1) (by omega) (by omega) with ⟨e, p0, p1⟩ | ⟨e, p0, p1⟩ | ⟨e, p0, p1⟩ | ⟨e, p0, p1⟩ | ⟨e, p0, p1⟩ | ⟨e, p0, p1⟩ | ⟨e, p0, p1⟩ | ⟨e, p0, p1⟩ | ⟨e, p0, p1⟩ | ⟨e, p0, p1⟩
        all_goals first | exact e | omega
      rw [e, h]
      exact .inl ⟨rfl, by show a + 1 - 57344 = a - 57344 + 1; omega⟩
  · by_cases c : a = 65183
    · subst c
      exact .inr (.inl ⟨by decide, by decide⟩)
    · have e : rwK (a + 1) = 5 := by
        rcases rw_cases (a + 1) (by omega) (by omega) with ⟨e, p0, p1⟩ | ⟨e, p0, p1⟩ | ⟨e, p0, p1⟩ | ⟨e, p0, p1⟩ | ⟨e, p0, p1⟩ | ⟨e, p0, p1⟩ | ⟨e, p0, p1⟩ | ⟨e, p0, p1⟩ | ⟨e, p0, p1⟩ | ⟨e, p0, p1⟩
        all_goals first | exact e | omega
      rw [e, h]
      exact .inl ⟨rfl, by show a + 1 - 65024 = a - 65024 + 1; omega⟩
  · by_cases c : a = 65279
    · subst c
      exact .inr (.inl ⟨by decide, by decide⟩)
    · have e : rwK (a + 1) = 6 := by
        rcases rw_cases (a + 1) (by omega) (by omega) with ⟨e, p0, p1⟩ | ⟨e, p0, p1⟩ | ⟨e, p0, p1⟩ | ⟨e, p0, p1⟩ | ⟨e, p0, p1⟩ | ⟨e, p0, p1⟩ | ⟨e, p0, p1⟩ | ⟨e, p0, p1⟩ | ⟨e, p0, p1⟩ | ⟨e, p0, p1⟩
        all_goals first | exact e | omega
      rw [e, h]
      exact .inl ⟨rfl, by show a + 1 - 65184 = a - 65184 + 1; omega⟩
  · by_cases c : a = 65407
    · subst c
      exact .inr (.inl ⟨by decide, by decide⟩)
    · have e : rwK (a + 1) = 7 := by
        rcases rw_cases (a + 1) (by omega) (by omega) with ⟨e, p0, p1⟩ | ⟨e, p0, p1⟩ | ⟨e, p0, p1⟩ | ⟨e, p0, p1⟩ | ⟨e, p0, p1⟩ | ⟨e, p0, p1⟩ | ⟨e, p0, p1⟩ | ⟨e, p0, p1⟩ | ⟨e, p0, p1⟩ | ⟨e, p0, p1⟩
        all_goals first | exact e | omega
      rw [e, h]
      exact .inl ⟨rfl, by show a + 1 - 65280 = a - 65280 + 1; omega⟩
  · by_cases c : a = 65534
    · subst c
      exact .inr (.inl ⟨by decide, by decide⟩)
    · have e : rwK (a + 1) = 8 := by
        rcases rw_cases (a + 1) (by omega) (by omega) with ⟨e, p0, p1⟩ | ⟨e, p0, p1⟩ | ⟨e, p0, p1⟩ | ⟨e, p0, p1⟩ | ⟨e, p0, p1⟩ | ⟨e, p0, p1⟩ | ⟨e, p0, p1⟩ | ⟨e, p0, p1⟩ | ⟨e, p0, p1⟩ | ⟨e, p0, p1⟩
        all_goals first | exact e | omega
      rw [e, h]
      exact .inl ⟨rfl, by show a + 1 - 65408 = a - 65408 + 1; omega⟩
  · omega
set_option maxRecDepth 100000 in
set_option maxHeartbeats 4000000 in
theorem places_end  (w : World) (lay : Lay20 w)  : Calls Tryd.prog 8 #[.int .u16 65535] w fun e w' => e = .returned (.bool true) ∧ Kept w w' := by
  have LY : Hid (∀ u, Kept w u → Lay20 u) := fun u k => lay20_kept lay k
  have SH := hid (kshown20 w lay)
  clear lay
  have R1 := hid (fun u l => preg20 65535 u l (by decide) (by decide))
  rw [show regP 65535 = 8 from rfl, show atP20 65535 = 0 from rfl] at R1
  go_enter Tryd.func8, Tryd.ntmps8
  go_wp2_with fail
  refine SH.out.mono ?_
  rintro e u0 ⟨rfl, k0⟩
  have K0 := hid k0
  clear k0 SH
  go_wp2_with fail
  refine (R1.out _ (LY.out _ K0.out)).mono ?_
  rintro e u1 ⟨rfl, k1⟩
  have K1 := hid (K0.out.trans k1)
  clear k1
  go_wp2
  go_ret
  exact ⟨rfl, K1.out⟩
set_option maxRecDepth 100000 in
set_option maxHeartbeats 4000000 in
theorem places_in (a r x s y : Int) (w : World) (lay : Lay20 w) (a0 : 0 ≤ a) (a1 : a < 65535)
    (R1 : ∀ u, Lay20 u → Calls Tryd.prog 10 #[.int .u16 a] u fun e w' => e = .returned (.tuple #[.int .i64 r, .int .i64 x]) ∧ Kept u w')
    (R2 : ∀ u, Lay20 u → Calls Tryd.prog 10 #[.int .u16 (a + 1)] u fun e w' => e = .returned (.tuple #[.int .i64 s, .int .i64 y]) ∧ Kept u w')
    (r0 : 0 ≤ r) (r1 : r ≤ 8) (x0 : 0 ≤ x) (x1 : x ≤ 65535) (hs : s = r) (hy : y = x + 1) : Calls Tryd.prog 8 #[.int .u16 a] w fun e w' => e = .returned (.bool true) ∧ Kept w w' := by
  have LY : Hid (∀ u, Kept w u → Lay20 u) := fun u k => lay20_kept lay k
  have SH := hid (kshown20 w lay)
  clear lay
  have g0 : (a == 65535) = false := beq_false_of_ne (by omega)
  have e0 : IntKind.u16.wrap (a + 1) = a + 1 := by rw [IntKind.wrap_u16]; omega
  have g1 : decide (0 ≤ r) = true := decide_eq_true r0
  have g2 : decide (r ≤ 8) = true := decide_eq_true r1
  have g3 : decide (0 ≤ x) = true := decide_eq_true x0
  have R1 := hid R1
  have R2 := hid R2
  subst hs
  subst hy
  have e1 : IntKind.i64.wrap (x + 1) = x + 1 := by rw [IntKind.wrap_i64]; omega
  go_enter Tryd.func8, Tryd.ntmps8
  go_wp2_with fail
  refine SH.out.mono ?_
  rintro e u0 ⟨rfl, k0⟩
  have K0 := hid k0
  clear k0 SH
  go_wp2_with fail
  refine (R1.out _ (LY.out _ K0.out)).mono ?_
  rintro e u1 ⟨rfl, k1⟩
  have K1 := hid (K0.out.trans k1)
  clear k1
  go_wp2_with fail
  refine (R2.out _ (LY.out _ K1.out)).mono ?_
  rintro e u2 ⟨rfl, k2⟩
  have K2 := hid (K1.out.trans k2)
  clear k2
  go_wp2
  go_ret
  exact ⟨rfl, K2.out⟩
set_option maxRecDepth 100000 in
set_option maxHeartbeats 4000000 in
theorem places_up (a r x s y : Int) (w : World) (lay : Lay20 w) (a0 : 0 ≤ a) (a1 : a < 65535)
    (R1 : ∀ u, Lay20 u → Calls Tryd.prog 10 #[.int .u16 a] u fun e w' => e = .returned (.tuple #[.int .i64 r, .int .i64 x]) ∧ Kept u w')
    (R2 : ∀ u, Lay20 u → Calls Tryd.prog 10 #[.int .u16 (a + 1)] u fun e w' => e = .returned (.tuple #[.int .i64 s, .int .i64 y]) ∧ Kept u w')
    (r0 : 0 ≤ r) (r1 : r ≤ 8) (x0 : 0 ≤ x) (x1 : x ≤ 65535) (hs : r < s) (hy : y = 0) : Calls Tryd.prog 8 #[.int .u16 a] w fun e w' => e = .returned (.bool true) ∧ Kept w w' := by
  have LY : Hid (∀ u, Kept w u → Lay20 u) := fun u k => lay20_kept lay k
  have SH := hid (kshown20 w lay)
  clear lay
  have g0 : (a == 65535) = false := beq_false_of_ne (by omega)
  have e0 : IntKind.u16.wrap (a + 1) = a + 1 := by rw [IntKind.wrap_u16]; omega
  have g1 : decide (0 ≤ r) = true := decide_eq_true r0
  have g2 : decide (r ≤ 8) = true := decide_eq_true r1
  have g3 : decide (0 ≤ x) = true := decide_eq_true x0
  have R1 := hid R1
  have R2 := hid R2
  subst hy
  have g4 : (s == r) = false := beq_false_of_ne (by omega)
  have g5 : decide (r < s) = true := decide_eq_true hs
  go_enter Tryd.func8, Tryd.ntmps8
  go_wp2_with fail
  refine SH.out.mono ?_
  rintro e u0 ⟨rfl, k0⟩
  have K0 := hid k0
  clear k0 SH
  go_wp2_with fail
  refine (R1.out _ (LY.out _ K0.out)).mono ?_
  rintro e u1 ⟨rfl, k1⟩
  have K1 := hid (K0.out.trans k1)
  clear k1
  go_wp2_with fail
  refine (R2.out _ (LY.out _ K1.out)).mono ?_
  rintro e u2 ⟨rfl, k2⟩
  have K2 := hid (K1.out.trans k2)
  clear k2
  go_wp2
  go_ret
  exact ⟨rfl, K2.out⟩
set_option maxRecDepth 100000 in
set_option maxHeartbeats 4000000 in
theorem places_w (a r x s y : Int) (w : World) (lay : Lay20 w) (a0 : 0 ≤ a) (a1 : a < 65535)
    (R1 : ∀ u, Lay20 u → Calls Tryd.prog 10 #[.int .u16 a] u fun e w' => e = .returned (.tuple #[.int .i64 r, .int .i64 x]) ∧ Kept u w')
    (R2 : ∀ u, Lay20 u → Calls Tryd.prog 10 #[.int .u16 (a + 1)] u fun e w' => e = .returned (.tuple #[.int .i64 s, .int .i64 y]) ∧ Kept u w')
    (r0 : 0 ≤ r) (r1 : r ≤ 8) (x0 : 0 ≤ x) (x1 : x ≤ 65535) (hr : r = 3) (hs : s = 3) (hx : x = 8191) (hy : y = 0) : Calls Tryd.prog 8 #[.int .u16 a] w fun e w' => e = .returned (.bool true) ∧ Kept w w' := by
  have LY : Hid (∀ u, Kept w u → Lay20 u) := fun u k => lay20_kept lay k
  have SH := hid (kshown20 w lay)
  clear lay
  have g0 : (a == 65535) = false := beq_false_of_ne (by omega)
  have e0 : IntKind.u16.wrap (a + 1) = a + 1 := by rw [IntKind.wrap_u16]; omega
  have g1 : decide (0 ≤ r) = true := decide_eq_true r0
  have g2 : decide (r ≤ 8) = true := decide_eq_true r1
  have g3 : decide (0 ≤ x) = true := decide_eq_true x0
  have R1 := hid R1
  have R2 := hid R2
  subst hy
  subst hr
  subst hs
  subst hx
  go_enter Tryd.func8, Tryd.ntmps8
  go_wp2_with fail
  refine SH.out.mono ?_
  rintro e u0 ⟨rfl, k0⟩
  have K0 := hid k0
  clear k0 SH
  go_wp2_with fail
  refine (R1.out _ (LY.out _ K0.out)).mono ?_
  rintro e u1 ⟨rfl, k1⟩
  have K1 := hid (K0.out.trans k1)
  clear k1
  go_wp2_with fail
  refine (R2.out _ (LY.out _ K1.out)).mono ?_
  rintro e u2 ⟨rfl, k2⟩
  have K2 := hid (K1.out.trans k2)
  clear k2
  go_wp2
  go_ret
  exact ⟨rfl, K2.out⟩
theorem places20 (a : Int) (w : World) (lay : Lay20 w) (a0 : 0 ≤ a) (a1 : a ≤ 65535) : Calls Tryd.prog 8 #[.int .u16 a] w fun e w' => e = .returned (.bool true) ∧ Kept w w' := by
  by_cases h : a = 65535
  · rw [h]; exact places_end w lay
  · have R1 := fun u l => preg20 a u l a0 a1
    have R2 := fun u l => preg20 (a + 1) u l (by omega) (by omega)
    have q := reg_cases a a0 a1
    have p := at_in a a0 a1
    rcases pl_next a a0 (by omega) with ⟨h1, h2⟩ | ⟨h1, h2⟩ | ⟨h1, h2, h3, h4⟩
    · exact places_in a _ _ _ _ w lay a0 (by omega) R1 R2 q.1 q.2 p.1 (by omega) h1 h2
    · exact places_up a _ _ _ _ w lay a0 (by omega) R1 R2 q.1 q.2 p.1 (by omega) h1 h2
    · exact places_w a _ _ _ _ w lay a0 (by omega) R1 R2 q.1 q.2 p.1 (by omega) h1 h2 h3 h4
end Go.Proofs.YtfndpikcodjajaaDoor
