/- For every clock and every two numbers of seconds: the law ClockSums returns true (no condition). -/
import Derived.Test.YtpnidlibgpbjgabRows
import Derived.WalkKit
import Derived.ProofKit
import Derived.OpenShut
import Derived.ShutString
import Derived.ChangeOld
import Derived.Deep.RegionHeld3
import Derived.Deep.DeepCutAuto
import Derived.LaidMore
import Derived.Lay
import Derived.Stop.Joined
import Derived.SevenTiedAt
import Derived.Deep.DeepHandedRow
import Derived.Deep.DeepWitnessRowRef
import Derived.SizedLaws
import Derived.SliceStrings
import Derived.Test.YtpnidlibgpbjgabFlat
import Derived.Test.YtpnidlibgpbjgabK6
import Derived.Test.YtpnidlibgpbjgabShown9
namespace Go.Proofs.Ytpnidlibgpbjgab.clockSums
open Go.ChangeShapes Go.WideShapes Go.ChangeAt Go.RowKit
open Go.ChangeMaps (open_string shut_string)
set_option linter.unusedVariables false

theorem own : ownKnob Try.prog.godebug = none := by kernel_rfl
theorem laidOut : laidOutB Try.prog = true := by kernel_rfl
theorem fits24 {l : List Value} (e : l.length = 6) (f : fitAll [(0, .int .u8), (1, .int .u8), (2, .int .u8), (3, .int .u16), (4, .bool), (5, .bool)] l) :
    ∃ (x0 : Int) (x1 : Int) (x2 : Int) (x3 : Int) (x4 : Bool) (x5 : Bool), l = [.int .u8 x0, .int .u8 x1, .int .u8 x2, .int .u16 x3, .bool x4, .bool x5] ∧ (Lit.int .u8 x0).wf = true ∧ (Lit.int .u8 x1).wf = true ∧ (Lit.int .u8 x2).wf = true ∧ (Lit.int .u16 x3).wf = true := by
  match l, e with
  | [c0, c1, c2, c3, c4, c5], _ =>
    obtain ⟨⟨v0, g0, x0, h0, w0⟩, ⟨v1, g1, x1, h1, w1⟩, ⟨v2, g2, x2, h2, w2⟩, ⟨v3, g3, x3, h3, w3⟩, ⟨v4, g4, x4, h4⟩, ⟨v5, g5, x5, h5⟩, _⟩ := f
    have e0 : c0 = v0 := Option.some.inj g0
    subst h0 e0
    have e1 : c1 = v1 := Option.some.inj g1
    subst h1 e1
    have e2 : c2 = v2 := Option.some.inj g2
    subst h2 e2
    have e3 : c3 = v3 := Option.some.inj g3
    subst h3 e3
    have e4 : c4 = v4 := Option.some.inj g4
    subst h4 e4
    have e5 : c5 = v5 := Option.some.inj g5
    subst h5 e5
    exact ⟨x0, x1, x2, x3, x4, x5, rfl, w0, w1, w2, w3⟩

set_option maxRecDepth 100000 in
set_option maxHeartbeats 8000000 in
theorem walk (a0c0 : Int) (a0c1 : Int) (a0c2 : Int) (a0c3 : Int) (a0c4 : Bool) (a0c5 : Bool) (a1 : Int) (a2 : Int) (w : World) (w0c0 : (Lit.int .u8 a0c0).wf = true) (w0c1 : (Lit.int .u8 a0c1).wf = true) (w0c2 : (Lit.int .u8 a0c2).wf = true) (w0c3 : (Lit.int .u16 a0c3).wf = true) (w1 : (Lit.int .u16 a1).wf = true) (w2 : (Lit.int .u16 a2).wf = true) :
    Calls Try.prog 5 #[.agg #[.int .u8 a0c0, .int .u8 a0c1, .int .u8 a0c2, .int .u16 a0c3, .bool a0c4, .bool a0c5], .int .u16 a1, .int .u16 a2] w fun e w' => e = .returned (.bool true) ∧ Kept w w' := by
  have CI : CkIn ⟨a0c0, a0c1, a0c2, a0c3, a0c4, a0c5⟩ := ⟨(bounds_u8 w0c0).1, (bounds_u8 w0c0).2, (bounds_u8 w0c1).1, (bounds_u8 w0c1).2, (bounds_u8 w0c2).1, (bounds_u8 w0c2).2, (bounds_u16 w0c3).1, (bounds_u16 w0c3).2⟩
  obtain ⟨p0, p1⟩ := bounds_u16 w1
  obtain ⟨q0, q1⟩ := bounds_u16 w2
  have S := hid (fun u => shown9 u)
  have tm : Int.tmod a1 5000 = a1 % 5000 := Int.tmod_eq_emod_of_nonneg p0
  have tn : Int.tmod a2 5000 = a2 % 5000 := Int.tmod_eq_emod_of_nonneg q0
  obtain ⟨m, hm⟩ : ∃ m : Nat, a1 % 5000 = (m : Int) := ⟨(a1 % 5000).toNat, by omega⟩
  obtain ⟨n, hn⟩ : ∃ n : Nat, a2 % 5000 = (n : Int) := ⟨(a2 % 5000).toNat, by omega⟩
  have m5 : m < 5000 := by omega
  have n5 : n < 5000 := by omega
  rw [hm] at tm
  rw [hn] at tn
  have O1 := run_ok (norm_ok CI) m
  have O2 := run_ok (norm_ok CI) (m + n)
  have E1 : runR ⟨a0c0, a0c1, a0c2, a0c3, a0c4, a0c5⟩ (m : Int) = runN m (normC ⟨a0c0, a0c1, a0c2, a0c3, a0c4, a0c5⟩) := by unfold runR; rw [if_neg (by omega)]; unfold runC; rw [Int.toNat_natCast]
  have E2 : runR (runN m (normC ⟨a0c0, a0c1, a0c2, a0c3, a0c4, a0c5⟩)) (n : Int) = runN (m + n) (normC ⟨a0c0, a0c1, a0c2, a0c3, a0c4, a0c5⟩) := by unfold runR; rw [if_neg (by omega)]; unfold runC; rw [Int.toNat_natCast, norm_id O1, run_add]
  have E3 : runR ⟨a0c0, a0c1, a0c2, a0c3, a0c4, a0c5⟩ ((m : Int) + (n : Int)) = runN (m + n) (normC ⟨a0c0, a0c1, a0c2, a0c3, a0c4, a0c5⟩) := by unfold runR; rw [if_neg (by omega)]; unfold runC; rw [show ((m : Int) + (n : Int)).toNat = m + n by omega]
  have E4 : runR ⟨a0c0, a0c1, a0c2, a0c3, a0c4, a0c5⟩ 1 = tickC ⟨a0c0, a0c1, a0c2, a0c3, a0c4, a0c5⟩ := rfl
  have E5 : runR ⟨a0c0, a0c1, a0c2, a0c3, a0c4, a0c5⟩ 0 = normC ⟨a0c0, a0c1, a0c2, a0c3, a0c4, a0c5⟩ := rfl
  have F1 : runE (m : Int) = 0 := by unfold runE; rw [if_neg (by omega)]
  have F2 : runE (n : Int) = 0 := by unfold runE; rw [if_neg (by omega)]
  have F3 : runE ((m : Int) + (n : Int)) = 0 := by unfold runE; rw [if_neg (by omega)]
  have C2 := hid (fun u => crun_any ⟨a0c0, a0c1, a0c2, a0c3, a0c4, a0c5⟩ (m : Int) u CI)
  have C3 := hid (fun u => crun_any (runN m (normC ⟨a0c0, a0c1, a0c2, a0c3, a0c4, a0c5⟩)) (n : Int) u O1.inn)
  have C4 := hid (fun u => crun_any ⟨a0c0, a0c1, a0c2, a0c3, a0c4, a0c5⟩ ((m : Int) + (n : Int)) u CI)
  have C5 := hid (fun u => crun_any ⟨a0c0, a0c1, a0c2, a0c3, a0c4, a0c5⟩ 1 u CI)
  have C6 := hid (fun u => crun_any ⟨a0c0, a0c1, a0c2, a0c3, a0c4, a0c5⟩ 0 u CI)
  have C7 := hid (fun u => ctick_any ⟨a0c0, a0c1, a0c2, a0c3, a0c4, a0c5⟩ u CI)
  have C8 := hid (fun u => cnorm_any ⟨a0c0, a0c1, a0c2, a0c3, a0c4, a0c5⟩ u CI)
  have C9 := hid (fun u => cnorm_any (runN (m + n) (normC ⟨a0c0, a0c1, a0c2, a0c3, a0c4, a0c5⟩)) u O2.inn)
  rw [E1, F1] at C2
  rw [E2, F2] at C3
  rw [E3, F3] at C4
  rw [E4, show runE 1 = 0 from rfl] at C5
  rw [E5, show runE 0 = 0 from rfl] at C6
  rw [norm_id O2] at C9
  generalize runN m (normC ⟨a0c0, a0c1, a0c2, a0c3, a0c4, a0c5⟩) = R1 at *
  generalize runN (m + n) (normC ⟨a0c0, a0c1, a0c2, a0c3, a0c4, a0c5⟩) = R2 at *
  generalize tickC ⟨a0c0, a0c1, a0c2, a0c3, a0c4, a0c5⟩ = T at *
  generalize normC ⟨a0c0, a0c1, a0c2, a0c3, a0c4, a0c5⟩ = N at *
  have w5 : IntKind.u16.wrap (m : Int) = (m : Int) := by rw [IntKind.wrap_u16]; omega
  have w6 : IntKind.u16.wrap (n : Int) = (n : Int) := by rw [IntKind.wrap_u16]; omega
  have w7 : IntKind.i64.wrap (m : Int) = (m : Int) := by rw [IntKind.wrap_i64]; omega
  have w8 : IntKind.i64.wrap (n : Int) = (n : Int) := by rw [IntKind.wrap_i64]; omega
  have w9 : IntKind.i64.wrap ((m : Int) + (n : Int)) = (m : Int) + (n : Int) := by rw [IntKind.wrap_i64]; omega
  clear E1 E2 E3 E4 E5 F1 F2 F3 O1 O2 hm hn
  go_enter Try.func5, Try.ntmps5
  go_wp2_with fail
  refine (S.out _).mono ?_
  rintro e u1 ⟨rfl, k1⟩
  have K1 := hid (((Kept.refl w).alloc (.cells #[.int .u8 a0c0, .int .u8 a0c1, .int .u8 a0c2, .int .u16 a0c3, .bool a0c4, .bool a0c5] 24)).trans k1)
  have H1b0 := hid (hasK k1 (has_alloc w #[.int .u8 a0c0, .int .u8 a0c1, .int .u8 a0c2, .int .u16 a0c3, .bool a0c4, .bool a0c5] 24))
  obtain ⟨z1b0, c1b0⟩ := id H1b0.out
  have f1b0c0 := c1b0 0
  have f1b0c1 := c1b0 1
  have f1b0c2 := c1b0 2
  have f1b0c3 := c1b0 3
  have f1b0c4 := c1b0 4
  have f1b0c5 := c1b0 5
  simp at f1b0c0 f1b0c1 f1b0c2 f1b0c3 f1b0c4 f1b0c5
  clear c1b0
  clear k1
  go_wp2_with fail
  refine (C2.out _).mono ?_
  rintro e u2 ⟨rfl, k2⟩
  have K2 := hid (K1.out.trans k2)
  have H2b0 := hid (hasK k2 H1b0.out)
  clear z1b0 f1b0c0 f1b0c1 f1b0c2 f1b0c3 f1b0c4 f1b0c5
  obtain ⟨z2b0, c2b0⟩ := id H2b0.out
  have f2b0c0 := c2b0 0
  have f2b0c1 := c2b0 1
  have f2b0c2 := c2b0 2
  have f2b0c3 := c2b0 3
  have f2b0c4 := c2b0 4
  have f2b0c5 := c2b0 5
  simp at f2b0c0 f2b0c1 f2b0c2 f2b0c3 f2b0c4 f2b0c5
  clear c2b0
  clear k2
  go_wp2_with fail
  refine (C3.out _).mono ?_
  rintro e u3 ⟨rfl, k3⟩
  have K3 := hid ((K2.out.alloc (.cells #[.int .u8 R1.sec, .int .u8 R1.min, .int .u8 R1.hour, .int .u16 R1.day, .bool R1.halt, .bool R1.carry] 24)).trans k3)
  have H3b0 := hid (hasK k3 (has_past H2b0.out (.cells #[.int .u8 R1.sec, .int .u8 R1.min, .int .u8 R1.hour, .int .u16 R1.day, .bool R1.halt, .bool R1.carry] 24)))
  have H3b1 := hid (hasK k3 (has_alloc u2 #[.int .u8 R1.sec, .int .u8 R1.min, .int .u8 R1.hour, .int .u16 R1.day, .bool R1.halt, .bool R1.carry] 24))
  clear z2b0 f2b0c0 f2b0c1 f2b0c2 f2b0c3 f2b0c4 f2b0c5
  obtain ⟨z3b0, c3b0⟩ := id H3b0.out
  have f3b0c0 := c3b0 0
  have f3b0c1 := c3b0 1
  have f3b0c2 := c3b0 2
  have f3b0c3 := c3b0 3
  have f3b0c4 := c3b0 4
  have f3b0c5 := c3b0 5
  simp at f3b0c0 f3b0c1 f3b0c2 f3b0c3 f3b0c4 f3b0c5
  clear c3b0
  obtain ⟨z3b1, c3b1⟩ := id H3b1.out
  have f3b1c0 := c3b1 0
  have f3b1c1 := c3b1 1
  have f3b1c2 := c3b1 2
  have f3b1c3 := c3b1 3
  have f3b1c4 := c3b1 4
  have f3b1c5 := c3b1 5
  simp at f3b1c0 f3b1c1 f3b1c2 f3b1c3 f3b1c4 f3b1c5
  clear c3b1
  clear k3
  go_wp2_with fail
  refine (C4.out _).mono ?_
  rintro e u4 ⟨rfl, k4⟩
  have K4 := hid ((K3.out.alloc (.cells #[.int .u8 R2.sec, .int .u8 R2.min, .int .u8 R2.hour, .int .u16 R2.day, .bool R2.halt, .bool R2.carry] 24)).trans k4)
  have H4b0 := hid (hasK k4 (has_past H3b0.out (.cells #[.int .u8 R2.sec, .int .u8 R2.min, .int .u8 R2.hour, .int .u16 R2.day, .bool R2.halt, .bool R2.carry] 24)))
  have H4b1 := hid (hasK k4 (has_past H3b1.out (.cells #[.int .u8 R2.sec, .int .u8 R2.min, .int .u8 R2.hour, .int .u16 R2.day, .bool R2.halt, .bool R2.carry] 24)))
  have H4b2 := hid (hasK k4 (has_alloc u3 #[.int .u8 R2.sec, .int .u8 R2.min, .int .u8 R2.hour, .int .u16 R2.day, .bool R2.halt, .bool R2.carry] 24))
  clear z3b0 f3b0c0 f3b0c1 f3b0c2 f3b0c3 f3b0c4 f3b0c5 z3b1 f3b1c0 f3b1c1 f3b1c2 f3b1c3 f3b1c4 f3b1c5
  obtain ⟨z4b0, c4b0⟩ := id H4b0.out
  have f4b0c0 := c4b0 0
  have f4b0c1 := c4b0 1
  have f4b0c2 := c4b0 2
  have f4b0c3 := c4b0 3
  have f4b0c4 := c4b0 4
  have f4b0c5 := c4b0 5
  simp at f4b0c0 f4b0c1 f4b0c2 f4b0c3 f4b0c4 f4b0c5
  clear c4b0
  obtain ⟨z4b1, c4b1⟩ := id H4b1.out
  have f4b1c0 := c4b1 0
  have f4b1c1 := c4b1 1
  have f4b1c2 := c4b1 2
  have f4b1c3 := c4b1 3
  have f4b1c4 := c4b1 4
  have f4b1c5 := c4b1 5
  simp at f4b1c0 f4b1c1 f4b1c2 f4b1c3 f4b1c4 f4b1c5
  clear c4b1
  obtain ⟨z4b2, c4b2⟩ := id H4b2.out
  have f4b2c0 := c4b2 0
  have f4b2c1 := c4b2 1
  have f4b2c2 := c4b2 2
  have f4b2c3 := c4b2 3
  have f4b2c4 := c4b2 4
  have f4b2c5 := c4b2 5
  simp at f4b2c0 f4b2c1 f4b2c2 f4b2c3 f4b2c4 f4b2c5
  clear c4b2
  clear k4
  go_wp2_with fail
  refine (C5.out _).mono ?_
  rintro e u5 ⟨rfl, k5⟩
  have K5 := hid ((K4.out.alloc (.cells #[.int .u8 R2.sec, .int .u8 R2.min, .int .u8 R2.hour, .int .u16 R2.day, .bool R2.halt, .bool R2.carry] 24)).trans k5)
  have H5b0 := hid (hasK k5 (has_past H4b0.out (.cells #[.int .u8 R2.sec, .int .u8 R2.min, .int .u8 R2.hour, .int .u16 R2.day, .bool R2.halt, .bool R2.carry] 24)))
  have H5b1 := hid (hasK k5 (has_past H4b1.out (.cells #[.int .u8 R2.sec, .int .u8 R2.min, .int .u8 R2.hour, .int .u16 R2.day, .bool R2.halt, .bool R2.carry] 24)))
  have H5b2 := hid (hasK k5 (has_past H4b2.out (.cells #[.int .u8 R2.sec, .int .u8 R2.min, .int .u8 R2.hour, .int .u16 R2.day, .bool R2.halt, .bool R2.carry] 24)))
  have H5b3 := hid (hasK k5 (has_alloc u4 #[.int .u8 R2.sec, .int .u8 R2.min, .int .u8 R2.hour, .int .u16 R2.day, .bool R2.halt, .bool R2.carry] 24))
  clear z4b0 f4b0c0 f4b0c1 f4b0c2 f4b0c3 f4b0c4 f4b0c5 z4b1 f4b1c0 f4b1c1 f4b1c2 f4b1c3 f4b1c4 f4b1c5 z4b2 f4b2c0 f4b2c1 f4b2c2 f4b2c3 f4b2c4 f4b2c5
  obtain ⟨z5b0, c5b0⟩ := id H5b0.out
  have f5b0c0 := c5b0 0
  have f5b0c1 := c5b0 1
  have f5b0c2 := c5b0 2
  have f5b0c3 := c5b0 3
  have f5b0c4 := c5b0 4
  have f5b0c5 := c5b0 5
  simp at f5b0c0 f5b0c1 f5b0c2 f5b0c3 f5b0c4 f5b0c5
  clear c5b0
  obtain ⟨z5b1, c5b1⟩ := id H5b1.out
  have f5b1c0 := c5b1 0
  have f5b1c1 := c5b1 1
  have f5b1c2 := c5b1 2
  have f5b1c3 := c5b1 3
  have f5b1c4 := c5b1 4
  have f5b1c5 := c5b1 5
  simp at f5b1c0 f5b1c1 f5b1c2 f5b1c3 f5b1c4 f5b1c5
  clear c5b1
  obtain ⟨z5b2, c5b2⟩ := id H5b2.out
  have f5b2c0 := c5b2 0
  have f5b2c1 := c5b2 1
  have f5b2c2 := c5b2 2
  have f5b2c3 := c5b2 3
  have f5b2c4 := c5b2 4
  have f5b2c5 := c5b2 5
  simp at f5b2c0 f5b2c1 f5b2c2 f5b2c3 f5b2c4 f5b2c5
  clear c5b2
  obtain ⟨z5b3, c5b3⟩ := id H5b3.out
  have f5b3c0 := c5b3 0
  have f5b3c1 := c5b3 1
  have f5b3c2 := c5b3 2
  have f5b3c3 := c5b3 3
  have f5b3c4 := c5b3 4
  have f5b3c5 := c5b3 5
  simp at f5b3c0 f5b3c1 f5b3c2 f5b3c3 f5b3c4 f5b3c5
  clear c5b3
  clear k5
  go_wp2_with fail
  refine (C6.out _).mono ?_
  rintro e u6 ⟨rfl, k6⟩
  have K6 := hid ((K5.out.alloc (.cells #[.int .u8 T.sec, .int .u8 T.min, .int .u8 T.hour, .int .u16 T.day, .bool T.halt, .bool T.carry] 24)).trans k6)
  have H6b0 := hid (hasK k6 (has_past H5b0.out (.cells #[.int .u8 T.sec, .int .u8 T.min, .int .u8 T.hour, .int .u16 T.day, .bool T.halt, .bool T.carry] 24)))
  have H6b1 := hid (hasK k6 (has_past H5b1.out (.cells #[.int .u8 T.sec, .int .u8 T.min, .int .u8 T.hour, .int .u16 T.day, .bool T.halt, .bool T.carry] 24)))
  have H6b2 := hid (hasK k6 (has_past H5b2.out (.cells #[.int .u8 T.sec, .int .u8 T.min, .int .u8 T.hour, .int .u16 T.day, .bool T.halt, .bool T.carry] 24)))
  have H6b3 := hid (hasK k6 (has_past H5b3.out (.cells #[.int .u8 T.sec, .int .u8 T.min, .int .u8 T.hour, .int .u16 T.day, .bool T.halt, .bool T.carry] 24)))
  have H6b4 := hid (hasK k6 (has_alloc u5 #[.int .u8 T.sec, .int .u8 T.min, .int .u8 T.hour, .int .u16 T.day, .bool T.halt, .bool T.carry] 24))
  clear z5b0 f5b0c0 f5b0c1 f5b0c2 f5b0c3 f5b0c4 f5b0c5 z5b1 f5b1c0 f5b1c1 f5b1c2 f5b1c3 f5b1c4 f5b1c5 z5b2 f5b2c0 f5b2c1 f5b2c2 f5b2c3 f5b2c4 f5b2c5 z5b3 f5b3c0 f5b3c1 f5b3c2 f5b3c3 f5b3c4 f5b3c5
  obtain ⟨z6b0, c6b0⟩ := id H6b0.out
  have f6b0c0 := c6b0 0
  have f6b0c1 := c6b0 1
  have f6b0c2 := c6b0 2
  have f6b0c3 := c6b0 3
  have f6b0c4 := c6b0 4
  have f6b0c5 := c6b0 5
  simp at f6b0c0 f6b0c1 f6b0c2 f6b0c3 f6b0c4 f6b0c5
  clear c6b0
  obtain ⟨z6b1, c6b1⟩ := id H6b1.out
  have f6b1c0 := c6b1 0
  have f6b1c1 := c6b1 1
  have f6b1c2 := c6b1 2
  have f6b1c3 := c6b1 3
  have f6b1c4 := c6b1 4
  have f6b1c5 := c6b1 5
  simp at f6b1c0 f6b1c1 f6b1c2 f6b1c3 f6b1c4 f6b1c5
  clear c6b1
  obtain ⟨z6b2, c6b2⟩ := id H6b2.out
  have f6b2c0 := c6b2 0
  have f6b2c1 := c6b2 1
  have f6b2c2 := c6b2 2
  have f6b2c3 := c6b2 3
  have f6b2c4 := c6b2 4
  have f6b2c5 := c6b2 5
  simp at f6b2c0 f6b2c1 f6b2c2 f6b2c3 f6b2c4 f6b2c5
  clear c6b2
  obtain ⟨z6b3, c6b3⟩ := id H6b3.out
  have f6b3c0 := c6b3 0
  have f6b3c1 := c6b3 1
  have f6b3c2 := c6b3 2
  have f6b3c3 := c6b3 3
  have f6b3c4 := c6b3 4
  have f6b3c5 := c6b3 5
  simp at f6b3c0 f6b3c1 f6b3c2 f6b3c3 f6b3c4 f6b3c5
  clear c6b3
  obtain ⟨z6b4, c6b4⟩ := id H6b4.out
  have f6b4c0 := c6b4 0
  have f6b4c1 := c6b4 1
  have f6b4c2 := c6b4 2
  have f6b4c3 := c6b4 3
  have f6b4c4 := c6b4 4
  have f6b4c5 := c6b4 5
  simp at f6b4c0 f6b4c1 f6b4c2 f6b4c3 f6b4c4 f6b4c5
  clear c6b4
  clear k6
  go_wp2_with fail
  have HN := hid (has_alloc u6 #[.int .u8 N.sec, .int .u8 N.min, .int .u8 N.hour, .int .u16 N.day, .bool N.halt, .bool N.carry] 24)
  have KN := hid (K6.out.alloc (.cells #[.int .u8 N.sec, .int .u8 N.min, .int .u8 N.hour, .int .u16 N.day, .bool N.halt, .bool N.carry] 24))
  have HN0 := hid (has_past H6b0.out (.cells #[.int .u8 N.sec, .int .u8 N.min, .int .u8 N.hour, .int .u16 N.day, .bool N.halt, .bool N.carry] 24))
  have HN1 := hid (has_past H6b1.out (.cells #[.int .u8 N.sec, .int .u8 N.min, .int .u8 N.hour, .int .u16 N.day, .bool N.halt, .bool N.carry] 24))
  have HN2 := hid (has_past H6b2.out (.cells #[.int .u8 N.sec, .int .u8 N.min, .int .u8 N.hour, .int .u16 N.day, .bool N.halt, .bool N.carry] 24))
  have HN3 := hid (has_past H6b3.out (.cells #[.int .u8 N.sec, .int .u8 N.min, .int .u8 N.hour, .int .u16 N.day, .bool N.halt, .bool N.carry] 24))
  have HN4 := hid (has_past H6b4.out (.cells #[.int .u8 N.sec, .int .u8 N.min, .int .u8 N.hour, .int .u16 N.day, .bool N.halt, .bool N.carry] 24))
  obtain ⟨uN, huN⟩ : ∃ v, u6.alloc (.cells #[.int .u8 N.sec, .int .u8 N.min, .int .u8 N.hour, .int .u16 N.day, .bool N.halt, .bool N.carry] 24) = v := ⟨_, rfl⟩
  obtain ⟨bN, hbN⟩ : ∃ v, u6.heap.size = v := ⟨_, rfl⟩
  rw [huN, hbN] at HN
  rw [huN] at KN HN0 HN1 HN2 HN3 HN4
  simp only [huN, hbN]
  clear huN hbN
  clear z6b0 f6b0c0 f6b0c1 f6b0c2 f6b0c3 f6b0c4 f6b0c5 z6b1 f6b1c0 f6b1c1 f6b1c2 f6b1c3 f6b1c4 f6b1c5 z6b2 f6b2c0 f6b2c1 f6b2c2 f6b2c3 f6b2c4 f6b2c5 z6b3 f6b3c0 f6b3c1 f6b3c2 f6b3c3 f6b3c4 f6b3c5 z6b4 f6b4c0 f6b4c1 f6b4c2 f6b4c3 f6b4c4 f6b4c5
  obtain ⟨z99b0, c99b0⟩ := id HN0.out
  have f99b0c0 := c99b0 0
  have f99b0c1 := c99b0 1
  have f99b0c2 := c99b0 2
  have f99b0c3 := c99b0 3
  have f99b0c4 := c99b0 4
  have f99b0c5 := c99b0 5
  simp at f99b0c0 f99b0c1 f99b0c2 f99b0c3 f99b0c4 f99b0c5
  clear c99b0
  obtain ⟨z99b1, c99b1⟩ := id HN1.out
  have f99b1c0 := c99b1 0
  have f99b1c1 := c99b1 1
  have f99b1c2 := c99b1 2
  have f99b1c3 := c99b1 3
  have f99b1c4 := c99b1 4
  have f99b1c5 := c99b1 5
  simp at f99b1c0 f99b1c1 f99b1c2 f99b1c3 f99b1c4 f99b1c5
  clear c99b1
  obtain ⟨z99b2, c99b2⟩ := id HN2.out
  have f99b2c0 := c99b2 0
  have f99b2c1 := c99b2 1
  have f99b2c2 := c99b2 2
  have f99b2c3 := c99b2 3
  have f99b2c4 := c99b2 4
  have f99b2c5 := c99b2 5
  simp at f99b2c0 f99b2c1 f99b2c2 f99b2c3 f99b2c4 f99b2c5
  clear c99b2
  obtain ⟨z99b3, c99b3⟩ := id HN3.out
  have f99b3c0 := c99b3 0
  have f99b3c1 := c99b3 1
  have f99b3c2 := c99b3 2
  have f99b3c3 := c99b3 3
  have f99b3c4 := c99b3 4
  have f99b3c5 := c99b3 5
  simp at f99b3c0 f99b3c1 f99b3c2 f99b3c3 f99b3c4 f99b3c5
  clear c99b3
  obtain ⟨z99b4, c99b4⟩ := id HN4.out
  have f99b4c0 := c99b4 0
  have f99b4c1 := c99b4 1
  have f99b4c2 := c99b4 2
  have f99b4c3 := c99b4 3
  have f99b4c4 := c99b4 4
  have f99b4c5 := c99b4 5
  simp at f99b4c0 f99b4c1 f99b4c2 f99b4c3 f99b4c4 f99b4c5
  clear c99b4
  obtain ⟨z99b5, c99b5⟩ := id HN.out
  have f99b5c0 := c99b5 0
  have f99b5c1 := c99b5 1
  have f99b5c2 := c99b5 2
  have f99b5c3 := c99b5 3
  have f99b5c4 := c99b5 4
  have f99b5c5 := c99b5 5
  simp at f99b5c0 f99b5c1 f99b5c2 f99b5c3 f99b5c4 f99b5c5
  clear c99b5
  go_region_held3 (fun w' => w.heap.size < w'.heap.size ∧ w'.cell? ⟨w.heap.size, 0, none⟩ = some (.int .u8 a0c0) ∧ w'.cell? ⟨w.heap.size, 1, none⟩ = some (.int .u8 a0c1) ∧ w'.cell? ⟨w.heap.size, 2, none⟩ = some (.int .u8 a0c2) ∧ w'.cell? ⟨w.heap.size, 3, none⟩ = some (.int .u16 a0c3) ∧ w'.cell? ⟨w.heap.size, 4, none⟩ = some (.bool a0c4) ∧ w'.cell? ⟨w.heap.size, 5, none⟩ = some (.bool a0c5) ∧ u3.heap.size < w'.heap.size ∧ w'.cell? ⟨u3.heap.size, 0, none⟩ = some (.int .u8 R2.sec) ∧ w'.cell? ⟨u3.heap.size, 1, none⟩ = some (.int .u8 R2.min) ∧ w'.cell? ⟨u3.heap.size, 2, none⟩ = some (.int .u8 R2.hour) ∧ w'.cell? ⟨u3.heap.size, 3, none⟩ = some (.int .u16 R2.day) ∧ w'.cell? ⟨u3.heap.size, 4, none⟩ = some (.bool R2.halt) ∧ w'.cell? ⟨u3.heap.size, 5, none⟩ = some (.bool R2.carry) ∧ u4.heap.size < w'.heap.size ∧ w'.cell? ⟨u4.heap.size, 0, none⟩ = some (.int .u8 R2.sec) ∧ w'.cell? ⟨u4.heap.size, 1, none⟩ = some (.int .u8 R2.min) ∧ w'.cell? ⟨u4.heap.size, 2, none⟩ = some (.int .u8 R2.hour) ∧ w'.cell? ⟨u4.heap.size, 3, none⟩ = some (.int .u16 R2.day) ∧ w'.cell? ⟨u4.heap.size, 4, none⟩ = some (.bool R2.halt) ∧ w'.cell? ⟨u4.heap.size, 5, none⟩ = some (.bool R2.carry) ∧ u5.heap.size < w'.heap.size ∧ w'.cell? ⟨u5.heap.size, 0, none⟩ = some (.int .u8 T.sec) ∧ w'.cell? ⟨u5.heap.size, 1, none⟩ = some (.int .u8 T.min) ∧ w'.cell? ⟨u5.heap.size, 2, none⟩ = some (.int .u8 T.hour) ∧ w'.cell? ⟨u5.heap.size, 3, none⟩ = some (.int .u16 T.day) ∧ w'.cell? ⟨u5.heap.size, 4, none⟩ = some (.bool T.halt) ∧ w'.cell? ⟨u5.heap.size, 5, none⟩ = some (.bool T.carry) ∧ bN < w'.heap.size ∧ w'.cell? ⟨bN, 0, none⟩ = some (.int .u8 N.sec) ∧ w'.cell? ⟨bN, 1, none⟩ = some (.int .u8 N.min) ∧ w'.cell? ⟨bN, 2, none⟩ = some (.int .u8 N.hour) ∧ w'.cell? ⟨bN, 3, none⟩ = some (.int .u16 N.day) ∧ w'.cell? ⟨bN, 4, none⟩ = some (.bool N.halt) ∧ w'.cell? ⟨bN, 5, none⟩ = some (.bool N.carry)) (go_keep) (first | (go_at_call 13; refine (C7.out _).mono ?_; rintro e v1 ⟨rfl, q1⟩; have D1b0 := hasK q1 HN0.out; obtain ⟨zD1b0, cD1b0⟩ := id D1b0; have D1b2 := hasK q1 HN2.out; obtain ⟨zD1b2, cD1b2⟩ := id D1b2; have D1b3 := hasK q1 HN3.out; obtain ⟨zD1b3, cD1b3⟩ := id D1b3; have D1b4 := hasK q1 HN4.out; obtain ⟨zD1b4, cD1b4⟩ := id D1b4; have D1b5 := hasK q1 HN.out; obtain ⟨zD1b5, cD1b5⟩ := id D1b5) | (go_at_call_of 11 (Value.int IntKind.u8 a0c0); refine (C8.out _).mono ?_; rintro e v2 ⟨rfl, q2⟩; have D2b0 := hasK q2 D1b0; obtain ⟨zD2b0, cD2b0⟩ := id D2b0; have D2b2 := hasK q2 D1b2; obtain ⟨zD2b2, cD2b2⟩ := id D2b2; have D2b3 := hasK q2 D1b3; obtain ⟨zD2b3, cD2b3⟩ := id D2b3; have D2b4 := hasK q2 D1b4; obtain ⟨zD2b4, cD2b4⟩ := id D2b4; have D2b5 := hasK q2 D1b5; obtain ⟨zD2b5, cD2b5⟩ := id D2b5) | (go_at_call_of 11 (Value.int IntKind.u8 R2.sec); refine (C9.out _).mono ?_; rintro e v3 ⟨rfl, q3⟩; have D3b0 := hasK q3 D2b0; obtain ⟨zD3b0, cD3b0⟩ := id D3b0; have D3b2 := hasK q3 D2b2; obtain ⟨zD3b2, cD3b2⟩ := id D3b2; have D3b3 := hasK q3 D2b3; obtain ⟨zD3b3, cD3b3⟩ := id D3b3; have D3b4 := hasK q3 D2b4; obtain ⟨zD3b4, cD3b4⟩ := id D3b4; have D3b5 := hasK q3 D2b5; obtain ⟨zD3b5, cD3b5⟩ := id D3b5))
  all_goals
    go_wp2
    go_ret
    exact ⟨rfl, ((KN.out.drew.trans q1).trans q2).trans q3⟩

set_option maxRecDepth 100000 in
theorem contract (H : Type) (enc : TypeId × Value → H) (fi : Stop.Interp) (W : World) (base : Nat) (args : Array Value) (ds gs : List (DataW H)) (before : List MemPlace)
    (hval : ∀ (j : Nat) t v, Try.f5.params[j]? = some t → args[j]? = some v → Value.okWide Try.prog W .any base t v)
    (hW : DataW.Whole enc Try.prog Try.f5.params.toList (OpenSpec.ofChange Rows.clockSumsSpec).vars false W args.toList ds gs before)
    (hk0 : ∀ k, (OpenSpec.ofChange Rows.clockSumsSpec).cond = some k → k H (ds ++ gs) = true)
    (hsz0 : (DataW.weightsEach Try.prog (Try.f5.params.toList ++ (OpenSpec.ofChange Rows.clockSumsSpec).bare.plain.varTypes Try.prog) (ds ++ gs)).all (· ≤ reachBytes) = true) (hL : laidMetH Try.prog Rows.clockSumsRow.laid W) :
    Calls Try.prog 5 args W fun e W' => ∃ v, e = .returned v ∧ ((OpenSpec.ofChange Rows.clockSumsSpec).at fi).post enc Try.prog Try.f5 false true false false W args v W' := by
  have hW' := hW
  obtain ⟨p, q, hA0, hV, rfl, hfz, hnd⟩ := hW
  have hA : DataW.TrodAll enc Try.prog W 0 (fun _ => true) true Try.f5.params.toList args.toList ds p := hA0
  rw [Try.params5] at hA hval
  obtain ⟨v0, vs0, d0, ds0, p0, q0, hargs, rfl, rfl, h0, r0x⟩ := trodAll_cons hA
  obtain ⟨v1, vs1, d1, ds1, p1, q1, rfl, rfl, rfl, h1, r1x⟩ := trodAll_cons r0x
  obtain ⟨v2, vs2, d2, ds2, p2, q2, rfl, rfl, rfl, h2, r2x⟩ := trodAll_cons r1x
  obtain ⟨rfl, rfl, rfl⟩ := trodAll_nil r2x
  obtain rfl : args = #[v0, v1, v2] := by cases args; simp_all
  obtain ⟨rfl, rfl⟩ := trodVars_none hV
  have hsz : (DataW.weightsEach Try.prog [24, 22, 22] [d0, d1, d2]).all (· ≤ reachBytes) = true := by
    have q := hsz0
    rw [show Try.f5.params.toList ++ (OpenSpec.ofChange Rows.clockSumsSpec).bare.plain.varTypes Try.prog = [24, 22, 22] by kernel_rfl] at q
    simpa using q
  obtain ⟨rfl, ⟨l0, rfl, e0, f0⟩, k0⟩ := flat_open (n := 8) (c := 6) (L := [(0, .int .u8), (1, .int .u8), (2, .int .u8), (3, .int .u16), (4, .bool), (5, .bool)]) Try.underlying24 (by kernel_rfl) (by kernel_rfl) (hval 0 24 v0 rfl rfl) h0
  obtain ⟨a0c0, a0c1, a0c2, a0c3, a0c4, a0c5, rfl, w0c0, w0c1, w0c2, w0c3⟩ := fits24 e0 f0
  obtain ⟨a1, rfl, rfl, rfl, w1⟩ := open_int Try.underlying22 (hval 1 22 v1 rfl rfl) h1
  obtain ⟨a2, rfl, rfl, rfl, w2⟩ := open_int Try.underlying22 (hval 2 22 v2 rfl rfl) h2
  clear hA0
  refine (walk a0c0 a0c1 a0c2 a0c3 a0c4 a0c5 a1 a2 W w0c0 w0c1 w0c2 w0c3 w1 w2).mono fun e W' ⟨he, hg⟩ => ?_
  subst he
  exact ⟨_, rfl, _, _, _, [], _, [], hW', trodAll_mk1 (shut_bool Try.underlying4 _), (trodAll_cons_mk (k0 _ _ _ _) (trodAll_cons_mk (shut_int Try.underlying22 w1) (trodAll_cons_mk (shut_int Try.underlying22 w2) trodAll_mk0))), rfl, hg.frame _, fun h => by cases h⟩
theorem start_met (os : Os) (args : Array Value) : laidMetH Try.prog Rows.clockSumsRow.laid ((World.laidAll Try.prog os Rows.clockSumsRow.laid).forCall (fun _ _ => 0) ⟨#[], args, []⟩).memory := by
  exact ⟨[], rfl, List.nodup_nil, fun _ _ h => by cases h⟩
theorem reads (os : Os) {H : Type} (enc : TypeId × Value → H) : ∃ places, DataW.whole enc Try.prog ((World.laidAll Try.prog os Rows.clockSumsRow.laid).forCall (fun _ _ => 0) ⟨#[], #[.agg #[.int .u8 0, .int .u8 0, .int .u8 0, .int .u16 0, .bool false, .bool false], .int .u16 0, .int .u16 0], []⟩).memory Try.f5.params.toList (OpenSpec.ofChange Rows.clockSumsSpec).vars false #[.agg #[.int .u8 0, .int .u8 0, .int .u8 0, .int .u16 0, .bool false, .bool false], .int .u16 0, .int .u16 0].toList 8 = some ([.agg [.lit (.int .u8 0), .lit (.int .u8 0), .lit (.int .u8 0), .lit (.int .u16 0), .lit (.bool false), .lit (.bool false)], .lit (.int .u16 0), .lit (.int .u16 0)], [], places) :=
  ⟨[], by kernel_rfl⟩
set_option maxRecDepth 100000 in
theorem lifted (os : Os) (started : os.Started) (H : Type) (enc : TypeId × Value → H) (fi : Stop.Interp) :
    ReturnsInHanded {} Try.checked os 5 .any ((OpenSpec.ofChange Rows.clockSumsSpec).preRow enc Try.prog Try.f5 Rows.clockSumsRow.domain false Rows.clockSumsRow.laid) (((OpenSpec.ofChange Rows.clockSumsSpec).at fi).post enc Try.prog Try.f5 false true false false) := by
  obtain ⟨places, hx⟩ := reads os enc
  refine returnsInHanded_of_row (C := Try.checked) (s := (OpenSpec.ofChange Rows.clockSumsSpec)) own started (by kernel_rfl) Try.func5
    (witness_row_atRef (enc := enc) (C := Try.checked) false (World.laidAll Try.prog os Rows.clockSumsRow.laid) #[.agg #[.int .u8 0, .int .u8 0, .int .u8 0, .int .u16 0, .bool false, .bool false], .int .u16 0, .int .u16 0] (World.laidAll_os _ _ _) (by kernel_rfl) (by kernel_rfl) (by kernel_rfl)
      (OpenSpec.preRow_of_cond 8 hx (by kernel_rfl) (fun k hk => by cases hk) (by kernel_rfl) (start_met os _))) ?_
  intro W base args ds gs before hval hW _ hk hsz hL _ _
  exact contract H enc fi W base args ds gs before hval hW hk hsz hL
theorem said : Rows.ClockSumsSaid :=
  OpenClaim.holds_of_cond 5 Try.f5 rfl rfl rfl rfl rfl rfl rfl ⟨rfl, rfl, rfl, rfl, rfl⟩ rfl rfl rfl rfl rfl (by kernel_rfl) Try.func5 (by kernel_rfl)
    (of_decide_eq_true (by kernel_rfl)) (by unfold Func.isWrapper; first | (rw [if_pos (by decide +kernel)]; kernel_rfl) | (rw [if_neg (by decide +kernel)]; exact ⟨rfl, rfl⟩))
    (fun os started H enc _ fi => by rw [OpenClaim.pre_eq_preRow]; exact lifted os started H enc fi)
end Go.Proofs.Ytpnidlibgpbjgab.clockSums
namespace Go.Proofs.Ytpnidlibgpbjgab
theorem clockSums_holds : Rows.ClockSumsSaid := clockSums.said
end Go.Proofs.Ytpnidlibgpbjgab
