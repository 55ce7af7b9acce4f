/- For every two clocks, every register's number and every byte: the law ClockBack returns true (no condition). -/
import Derived.Test.YtpnidlibgpbjgabRows
import Derived.WalkKit
import Derived.ProofKit
import Derived.OpenShut
import Derived.ShutString
import Derived.ChangeOld
import Derived.Deep.RegionHeld3
import Derived.Deep.DeepCutAuto
import Derived.LaidMore
import Derived.Lay
import Derived.Stop.Joined
import Derived.SevenTiedAt
import Derived.Deep.DeepHandedRow
import Derived.Deep.DeepWitnessRowRef
import Derived.SizedLaws
import Derived.SliceStrings
import Derived.Test.YtpnidlibgpbjgabFlat
import Derived.Test.YtpnidlibgpbjgabK6
import Derived.Test.YtpnidlibgpbjgabShown9
import Derived.Test.YtpnidlibgpbjgabCk9o
import Derived.Test.YtpnidlibgpbjgabPg9d
import Derived.Test.YtpnidlibgpbjgabPg9g
namespace Go.Proofs.Ytpnidlibgpbjgab.clockBack
open Go.ChangeShapes Go.WideShapes Go.ChangeAt Go.RowKit
open Go.ChangeMaps (open_string shut_string)
set_option linter.unusedVariables false

theorem own : ownKnob Try.prog.godebug = none := by kernel_rfl
theorem laidOut : laidOutB Try.prog = true := by kernel_rfl
theorem fits24 {l : List Value} (e : l.length = 6) (f : fitAll [(0, .int .u8), (1, .int .u8), (2, .int .u8), (3, .int .u16), (4, .bool), (5, .bool)] l) :
    ∃ (x0 : Int) (x1 : Int) (x2 : Int) (x3 : Int) (x4 : Bool) (x5 : Bool), l = [.int .u8 x0, .int .u8 x1, .int .u8 x2, .int .u16 x3, .bool x4, .bool x5] ∧ (Lit.int .u8 x0).wf = true ∧ (Lit.int .u8 x1).wf = true ∧ (Lit.int .u8 x2).wf = true ∧ (Lit.int .u16 x3).wf = true := by
  match l, e with
  | [c0, c1, c2, c3, c4, c5], _ =>
    obtain ⟨⟨v0, g0, x0, h0, w0⟩, ⟨v1, g1, x1, h1, w1⟩, ⟨v2, g2, x2, h2, w2⟩, ⟨v3, g3, x3, h3, w3⟩, ⟨v4, g4, x4, h4⟩, ⟨v5, g5, x5, h5⟩, _⟩ := f
    have e0 : c0 = v0 := Option.some.inj g0
    subst h0 e0
    have e1 : c1 = v1 := Option.some.inj g1
    subst h1 e1
    have e2 : c2 = v2 := Option.some.inj g2
    subst h2 e2
    have e3 : c3 = v3 := Option.some.inj g3
    subst h3 e3
    have e4 : c4 = v4 := Option.some.inj g4
    subst h4 e4
    have e5 : c5 = v5 := Option.some.inj g5
    subst h5 e5
    exact ⟨x0, x1, x2, x3, x4, x5, rfl, w0, w1, w2, w3⟩

set_option maxRecDepth 100000 in
set_option maxHeartbeats 8000000 in
theorem walk (a0c0 : Int) (a0c1 : Int) (a0c2 : Int) (a0c3 : Int) (a0c4 : Bool) (a0c5 : Bool) (a1c0 : Int) (a1c1 : Int) (a1c2 : Int) (a1c3 : Int) (a1c4 : Bool) (a1c5 : Bool) (a2 : Int) (a3 : Int) (w : World) (w0c0 : (Lit.int .u8 a0c0).wf = true) (w0c1 : (Lit.int .u8 a0c1).wf = true) (w0c2 : (Lit.int .u8 a0c2).wf = true) (w0c3 : (Lit.int .u16 a0c3).wf = true) (w1c0 : (Lit.int .u8 a1c0).wf = true) (w1c1 : (Lit.int .u8 a1c1).wf = true) (w1c2 : (Lit.int .u8 a1c2).wf = true) (w1c3 : (Lit.int .u16 a1c3).wf = true) (w2 : (Lit.int .u8 a2).wf = true) (w3 : (Lit.int .u8 a3).wf = true) :
    Calls Try.prog 3 #[.agg #[.int .u8 a0c0, .int .u8 a0c1, .int .u8 a0c2, .int .u16 a0c3, .bool a0c4, .bool a0c5], .agg #[.int .u8 a1c0, .int .u8 a1c1, .int .u8 a1c2, .int .u16 a1c3, .bool a1c4, .bool a1c5], .int .u8 a2, .int .u8 a3] w fun e w' => e = .returned (.bool true) ∧ Kept w w' := by
  have CI : CkIn ⟨a0c0, a0c1, a0c2, a0c3, a0c4, a0c5⟩ := ⟨(bounds_u8 w0c0).1, (bounds_u8 w0c0).2, (bounds_u8 w0c1).1, (bounds_u8 w0c1).2, (bounds_u8 w0c2).1, (bounds_u8 w0c2).2, (bounds_u16 w0c3).1, (bounds_u16 w0c3).2⟩
  have CJ : CkIn ⟨a1c0, a1c1, a1c2, a1c3, a1c4, a1c5⟩ := ⟨(bounds_u8 w1c0).1, (bounds_u8 w1c0).2, (bounds_u8 w1c1).1, (bounds_u8 w1c1).2, (bounds_u8 w1c2).1, (bounds_u8 w1c2).2, (bounds_u16 w1c3).1, (bounds_u16 w1c3).2⟩
  obtain ⟨r0, r1⟩ := bounds_u8 w2
  obtain ⟨v0, v1⟩ := bounds_u8 w3
  have tm : Int.tmod a2 5 = a2 % 5 := Int.tmod_eq_emod_of_nonneg r0
  obtain ⟨K, hK⟩ : ∃ K, 8 + a2 % 5 = K := ⟨_, rfl⟩
  have KB : 8 ≤ K ∧ K ≤ 12 := by omega
  have y1 : IntKind.u8.wrap (a2 % 5) = a2 % 5 := by rw [IntKind.wrap_u8]; omega
  have y2 : IntKind.i64.wrap (a2 % 5) = a2 % 5 := by rw [IntKind.wrap_i64]; omega
  have y3 : IntKind.i64.wrap K = K := by rw [IntKind.wrap_i64]; omega
  have S := hid (fun u => shown9 u)
  have C2 := hid (fun u => cbytes_any ⟨a0c0, a0c1, a0c2, a0c3, a0c4, a0c5⟩ ⟨a1c0, a1c1, a1c2, a1c3, a1c4, a1c5⟩ u CI CJ)
  have LI := bytes_in ⟨a0c0, a0c1, a0c2, a0c3, a0c4, a0c5⟩ ⟨a1c0, a1c1, a1c2, a1c3, a1c4, a1c5⟩ CI CJ
  obtain ⟨F1, F2, F3⟩ := bytes_of ⟨a0c0, a0c1, a0c2, a0c3, a0c4, a0c5⟩ ⟨a1c0, a1c1, a1c2, a1c3, a1c4, a1c5⟩ CI CJ
  have LL : (bytesL ⟨a0c0, a0c1, a0c2, a0c3, a0c4, a0c5⟩ ⟨a1c0, a1c1, a1c2, a1c3, a1c4, a1c5⟩).length = 10 := rfl
  have OW := hid (fun (u : World) (base : Nat) (v : Value) (o : u.ownsRow base 5 1 v (bytesL ⟨a0c0, a0c1, a0c2, a0c3, a0c4, a0c5⟩ ⟨a1c0, a1c1, a1c2, a1c3, a1c4, a1c5⟩).length ((bytesL ⟨a0c0, a0c1, a0c2, a0c3, a0c4, a0c5⟩ ⟨a1c0, a1c1, a1c2, a1c3, a1c4, a1c5⟩).map (Value.int .u8))) => owns_rowB o LI (by rw [LL]; decide))
  have C3 := hid (fun (a : Option Addr) (cap : Nat) (u : World) (row : Row u a (bytesL ⟨a0c0, a0c1, a0c2, a0c3, a0c4, a0c5⟩ ⟨a1c0, a1c1, a1c2, a1c3, a1c4, a1c5⟩)) (lc : (bytesL ⟨a0c0, a0c1, a0c2, a0c3, a0c4, a0c5⟩ ⟨a1c0, a1c1, a1c2, a1c3, a1c4, a1c5⟩).length ≤ cap) (cm : cap ≤ maxLen) => cof_any (bytesL ⟨a0c0, a0c1, a0c2, a0c3, a0c4, a0c5⟩ ⟨a1c0, a1c1, a1c2, a1c3, a1c4, a1c5⟩) a cap u row lc cm)
  rw [F1, F2, F3] at C3
  rw [LL] at C2 OW C3
  generalize bytesL ⟨a0c0, a0c1, a0c2, a0c3, a0c4, a0c5⟩ ⟨a1c0, a1c1, a1c2, a1c3, a1c4, a1c5⟩ = L at *
  have NO := norm_ok CI
  have RO : CkOk (writeC ⟨a0c0, a0c1, a0c2, a0c3, a0c4, a0c5⟩ K a3) := write_ok (normC ⟨a0c0, a0c1, a0c2, a0c3, a0c4, a0c5⟩) K a3 NO KB v0 v1
  have RW := hid (fun i (hi : 8 ≤ i ∧ i ≤ 12) => read_write (normC ⟨a0c0, a0c1, a0c2, a0c3, a0c4, a0c5⟩) K i a3 NO KB hi v0 v1)
  have C4 := hid (fun u => cwrite_any ⟨a0c0, a0c1, a0c2, a0c3, a0c4, a0c5⟩ K a3 u CI v0 v1)
  rw [regE_in K KB] at C4
  have C5 := hid (fun i u => cread_any ⟨a0c0, a0c1, a0c2, a0c3, a0c4, a0c5⟩ i u CI)
  have C6 := hid (fun i u => cread_any (writeC ⟨a0c0, a0c1, a0c2, a0c3, a0c4, a0c5⟩ K a3) i u RO.inn)
  have RD := hid (fun i => show readC (writeC ⟨a0c0, a0c1, a0c2, a0c3, a0c4, a0c5⟩ K a3) i = readV (writeN (normC ⟨a0c0, a0c1, a0c2, a0c3, a0c4, a0c5⟩) K a3) i by unfold readC; rw [norm_id RO]; rfl)
  have BB := read_byte (writeC ⟨a0c0, a0c1, a0c2, a0c3, a0c4, a0c5⟩ K a3) RO.inn K KB
  have C7 := hid (fun u => cwrite_any (writeC ⟨a0c0, a0c1, a0c2, a0c3, a0c4, a0c5⟩ K a3) K (readC (writeC ⟨a0c0, a0c1, a0c2, a0c3, a0c4, a0c5⟩ K a3) K) u RO.inn BB.1 BB.2)
  have WR : writeC (writeC ⟨a0c0, a0c1, a0c2, a0c3, a0c4, a0c5⟩ K a3) K (readC (writeC ⟨a0c0, a0c1, a0c2, a0c3, a0c4, a0c5⟩ K a3) K) = writeC ⟨a0c0, a0c1, a0c2, a0c3, a0c4, a0c5⟩ K a3 := by
    have e := write_read (writeC ⟨a0c0, a0c1, a0c2, a0c3, a0c4, a0c5⟩ K a3) K RO KB
    unfold writeC readC
    unfold writeC at e RO
    rw [norm_id RO]
    exact e
  rw [WR, regE_in K KB] at C7
  have C8 := hid (fun u => cnorm_any ⟨a0c0, a0c1, a0c2, a0c3, a0c4, a0c5⟩ u CI)
  have C9 := hid (fun u => cnorm_any ⟨a1c0, a1c1, a1c2, a1c3, a1c4, a1c5⟩ u CJ)
  have RF := hid (fun i (hi : 8 ≤ i ∧ i ≤ 12) => (⟨fun q => by rw [RD.out]; exact (RW.out i hi).1 q, fun q => by rw [RD.out]; exact (RW.out i hi).2 q⟩ : (i ≠ K → readC (writeC ⟨a0c0, a0c1, a0c2, a0c3, a0c4, a0c5⟩ K a3) i = readC ⟨a0c0, a0c1, a0c2, a0c3, a0c4, a0c5⟩ i) ∧ (i = K → bits .or .u8 (readC (writeC ⟨a0c0, a0c1, a0c2, a0c3, a0c4, a0c5⟩ K a3) i) a3 = a3)))
  clear F1 F2 F3 NO RW RD WR LL LI
  generalize writeC ⟨a0c0, a0c1, a0c2, a0c3, a0c4, a0c5⟩ K a3 = R at *
  generalize normC ⟨a0c0, a0c1, a0c2, a0c3, a0c4, a0c5⟩ = N0 at *
  generalize normC ⟨a1c0, a1c1, a1c2, a1c3, a1c4, a1c5⟩ = N1 at *
  clear CI CJ RO
  go_enter Try.func3, Try.ntmps3
  go_wp2_with fail
  refine (S.out _).mono ?_
  rintro e u1 ⟨rfl, k1⟩
  have K1 := hid ((((Kept.refl w).alloc (.cells #[.int .u8 a0c0, .int .u8 a0c1, .int .u8 a0c2, .int .u16 a0c3, .bool a0c4, .bool a0c5] 24)).alloc (.cells #[.int .u8 a1c0, .int .u8 a1c1, .int .u8 a1c2, .int .u16 a1c3, .bool a1c4, .bool a1c5] 24)).trans k1)
  have H1b0 := hid (hasK k1 (has_past (has_alloc w #[.int .u8 a0c0, .int .u8 a0c1, .int .u8 a0c2, .int .u16 a0c3, .bool a0c4, .bool a0c5] 24) (.cells #[.int .u8 a1c0, .int .u8 a1c1, .int .u8 a1c2, .int .u16 a1c3, .bool a1c4, .bool a1c5] 24)))
  have H1b1 := hid (hasK k1 (has_alloc (w.alloc (.cells #[.int .u8 a0c0, .int .u8 a0c1, .int .u8 a0c2, .int .u16 a0c3, .bool a0c4, .bool a0c5] 24)) #[.int .u8 a1c0, .int .u8 a1c1, .int .u8 a1c2, .int .u16 a1c3, .bool a1c4, .bool a1c5] 24))
  try simp only [World.size_alloc] at H1b1
  obtain ⟨z1b0, c1b0⟩ := id H1b0.out
  have f1b0c0 := c1b0 0
  have f1b0c1 := c1b0 1
  have f1b0c2 := c1b0 2
  have f1b0c3 := c1b0 3
  have f1b0c4 := c1b0 4
  have f1b0c5 := c1b0 5
  simp at f1b0c0 f1b0c1 f1b0c2 f1b0c3 f1b0c4 f1b0c5
  clear c1b0
  obtain ⟨z1b1, c1b1⟩ := id H1b1.out
  have f1b1c0 := c1b1 0
  have f1b1c1 := c1b1 1
  have f1b1c2 := c1b1 2
  have f1b1c3 := c1b1 3
  have f1b1c4 := c1b1 4
  have f1b1c5 := c1b1 5
  simp at f1b1c0 f1b1c1 f1b1c2 f1b1c3 f1b1c4 f1b1c5
  clear c1b1
  clear k1
  go_wp2_with fail
  refine (C2.out _).mono ?_
  rintro e u2 ⟨x2, rfl, o2, k2⟩
  have K2 := hid (K1.out.trans k2)
  have H2b0 := hid (hasK k2 H1b0.out)
  have H2b1 := hid (hasK k2 H1b1.out)
  try simp only [World.size_alloc] at H2b1
  clear z1b0 f1b0c0 f1b0c1 f1b0c2 f1b0c3 f1b0c4 f1b0c5 z1b1 f1b1c0 f1b1c1 f1b1c2 f1b1c3 f1b1c4 f1b1c5
  obtain ⟨z2b0, c2b0⟩ := id H2b0.out
  have f2b0c0 := c2b0 0
  have f2b0c1 := c2b0 1
  have f2b0c2 := c2b0 2
  have f2b0c3 := c2b0 3
  have f2b0c4 := c2b0 4
  have f2b0c5 := c2b0 5
  simp at f2b0c0 f2b0c1 f2b0c2 f2b0c3 f2b0c4 f2b0c5
  clear c2b0
  obtain ⟨z2b1, c2b1⟩ := id H2b1.out
  have f2b1c0 := c2b1 0
  have f2b1c1 := c2b1 1
  have f2b1c2 := c2b1 2
  have f2b1c3 := c2b1 3
  have f2b1c4 := c2b1 4
  have f2b1c5 := c2b1 5
  simp at f2b1c0 f2b1c1 f2b1c2 f2b1c3 f2b1c4 f2b1c5
  clear c2b1
  clear k2
  obtain ⟨ax, cp, rfl, rw2, lc2, cm2⟩ := OW.out _ _ _ o2
  clear o2
  go_wp2_with fail
  refine (C3.out _ _ _ rw2 lc2 cm2).mono ?_
  rintro e u3 ⟨rfl, k3⟩
  have K3 := hid (K2.out.trans k3)
  have H3b0 := hid (hasK k3 H2b0.out)
  have H3b1 := hid (hasK k3 H2b1.out)
  try simp only [World.size_alloc] at H3b1
  clear z2b0 f2b0c0 f2b0c1 f2b0c2 f2b0c3 f2b0c4 f2b0c5 z2b1 f2b1c0 f2b1c1 f2b1c2 f2b1c3 f2b1c4 f2b1c5
  obtain ⟨z3b0, c3b0⟩ := id H3b0.out
  have f3b0c0 := c3b0 0
  have f3b0c1 := c3b0 1
  have f3b0c2 := c3b0 2
  have f3b0c3 := c3b0 3
  have f3b0c4 := c3b0 4
  have f3b0c5 := c3b0 5
  simp at f3b0c0 f3b0c1 f3b0c2 f3b0c3 f3b0c4 f3b0c5
  clear c3b0
  obtain ⟨z3b1, c3b1⟩ := id H3b1.out
  have f3b1c0 := c3b1 0
  have f3b1c1 := c3b1 1
  have f3b1c2 := c3b1 2
  have f3b1c3 := c3b1 3
  have f3b1c4 := c3b1 4
  have f3b1c5 := c3b1 5
  simp at f3b1c0 f3b1c1 f3b1c2 f3b1c3 f3b1c4 f3b1c5
  clear c3b1
  clear k3
  go_wp2_with fail
  refine (C4.out _).mono ?_
  rintro e u4 ⟨rfl, k4⟩
  have K4 := hid (((K3.out.alloc (.cells #[.int .u8 N0.sec, .int .u8 N0.min, .int .u8 N0.hour, .int .u16 N0.day, .bool N0.halt, .bool N0.carry] 24)).alloc (.cells #[.int .u8 N1.sec, .int .u8 N1.min, .int .u8 N1.hour, .int .u16 N1.day, .bool N1.halt, .bool N1.carry] 24)).trans k4)
  have H4b0 := hid (hasK k4 (has_past (has_past H3b0.out (.cells #[.int .u8 N0.sec, .int .u8 N0.min, .int .u8 N0.hour, .int .u16 N0.day, .bool N0.halt, .bool N0.carry] 24)) (.cells #[.int .u8 N1.sec, .int .u8 N1.min, .int .u8 N1.hour, .int .u16 N1.day, .bool N1.halt, .bool N1.carry] 24)))
  have H4b1 := hid (hasK k4 (has_past (has_past H3b1.out (.cells #[.int .u8 N0.sec, .int .u8 N0.min, .int .u8 N0.hour, .int .u16 N0.day, .bool N0.halt, .bool N0.carry] 24)) (.cells #[.int .u8 N1.sec, .int .u8 N1.min, .int .u8 N1.hour, .int .u16 N1.day, .bool N1.halt, .bool N1.carry] 24)))
  try simp only [World.size_alloc] at H4b1
  have H4b2 := hid (hasK k4 (has_past (has_alloc u3 #[.int .u8 N0.sec, .int .u8 N0.min, .int .u8 N0.hour, .int .u16 N0.day, .bool N0.halt, .bool N0.carry] 24) (.cells #[.int .u8 N1.sec, .int .u8 N1.min, .int .u8 N1.hour, .int .u16 N1.day, .bool N1.halt, .bool N1.carry] 24)))
  have H4b3 := hid (hasK k4 (has_alloc (u3.alloc (.cells #[.int .u8 N0.sec, .int .u8 N0.min, .int .u8 N0.hour, .int .u16 N0.day, .bool N0.halt, .bool N0.carry] 24)) #[.int .u8 N1.sec, .int .u8 N1.min, .int .u8 N1.hour, .int .u16 N1.day, .bool N1.halt, .bool N1.carry] 24))
  try simp only [World.size_alloc] at H4b3
  clear z3b0 f3b0c0 f3b0c1 f3b0c2 f3b0c3 f3b0c4 f3b0c5 z3b1 f3b1c0 f3b1c1 f3b1c2 f3b1c3 f3b1c4 f3b1c5
  obtain ⟨z4b0, c4b0⟩ := id H4b0.out
  have f4b0c0 := c4b0 0
  have f4b0c1 := c4b0 1
  have f4b0c2 := c4b0 2
  have f4b0c3 := c4b0 3
  have f4b0c4 := c4b0 4
  have f4b0c5 := c4b0 5
  simp at f4b0c0 f4b0c1 f4b0c2 f4b0c3 f4b0c4 f4b0c5
  clear c4b0
  obtain ⟨z4b1, c4b1⟩ := id H4b1.out
  have f4b1c0 := c4b1 0
  have f4b1c1 := c4b1 1
  have f4b1c2 := c4b1 2
  have f4b1c3 := c4b1 3
  have f4b1c4 := c4b1 4
  have f4b1c5 := c4b1 5
  simp at f4b1c0 f4b1c1 f4b1c2 f4b1c3 f4b1c4 f4b1c5
  clear c4b1
  obtain ⟨z4b2, c4b2⟩ := id H4b2.out
  have f4b2c0 := c4b2 0
  have f4b2c1 := c4b2 1
  have f4b2c2 := c4b2 2
  have f4b2c3 := c4b2 3
  have f4b2c4 := c4b2 4
  have f4b2c5 := c4b2 5
  simp at f4b2c0 f4b2c1 f4b2c2 f4b2c3 f4b2c4 f4b2c5
  clear c4b2
  obtain ⟨z4b3, c4b3⟩ := id H4b3.out
  have f4b3c0 := c4b3 0
  have f4b3c1 := c4b3 1
  have f4b3c2 := c4b3 2
  have f4b3c3 := c4b3 3
  have f4b3c4 := c4b3 4
  have f4b3c5 := c4b3 5
  simp at f4b3c0 f4b3c1 f4b3c2 f4b3c3 f4b3c4 f4b3c5
  clear c4b3
  clear k4
  go_wp2_with fail
  have HN := hid (has_alloc u4 #[.int .u8 R.sec, .int .u8 R.min, .int .u8 R.hour, .int .u16 R.day, .bool R.halt, .bool R.carry] 24)
  have KN := hid (K4.out.alloc (.cells #[.int .u8 R.sec, .int .u8 R.min, .int .u8 R.hour, .int .u16 R.day, .bool R.halt, .bool R.carry] 24))
  have HN0 := hid (has_past H4b0.out (.cells #[.int .u8 R.sec, .int .u8 R.min, .int .u8 R.hour, .int .u16 R.day, .bool R.halt, .bool R.carry] 24))
  have HN1 := hid (has_past H4b1.out (.cells #[.int .u8 R.sec, .int .u8 R.min, .int .u8 R.hour, .int .u16 R.day, .bool R.halt, .bool R.carry] 24))
  have HN2 := hid (has_past H4b2.out (.cells #[.int .u8 R.sec, .int .u8 R.min, .int .u8 R.hour, .int .u16 R.day, .bool R.halt, .bool R.carry] 24))
  have HN3 := hid (has_past H4b3.out (.cells #[.int .u8 R.sec, .int .u8 R.min, .int .u8 R.hour, .int .u16 R.day, .bool R.halt, .bool R.carry] 24))
  obtain ⟨uN, huN⟩ : ∃ v, u4.alloc (.cells #[.int .u8 R.sec, .int .u8 R.min, .int .u8 R.hour, .int .u16 R.day, .bool R.halt, .bool R.carry] 24) = v := ⟨_, rfl⟩
  obtain ⟨bN, hbN⟩ : ∃ v, u4.heap.size = v := ⟨_, rfl⟩
  rw [huN, hbN] at HN
  rw [huN] at KN HN0 HN1 HN2 HN3
  simp only [huN, hbN]
  clear huN hbN
  clear z4b0 f4b0c0 f4b0c1 f4b0c2 f4b0c3 f4b0c4 f4b0c5 z4b1 f4b1c0 f4b1c1 f4b1c2 f4b1c3 f4b1c4 f4b1c5 z4b2 f4b2c0 f4b2c1 f4b2c2 f4b2c3 f4b2c4 f4b2c5 z4b3 f4b3c0 f4b3c1 f4b3c2 f4b3c3 f4b3c4 f4b3c5
  go_loopw [16] (fun i wr => ∃ j : Nat, j ≤ 5 ∧ i = .int .i64 (8 + (j : Int)) ∧ Has wr (w.heap.size) #[.int .u8 a0c0, .int .u8 a0c1, .int .u8 a0c2, .int .u16 a0c3, .bool a0c4, .bool a0c5] ∧ Has wr (w.heap.size + 1) #[.int .u8 a1c0, .int .u8 a1c1, .int .u8 a1c2, .int .u16 a1c3, .bool a1c4, .bool a1c5] ∧ Has wr (u3.heap.size) #[.int .u8 N0.sec, .int .u8 N0.min, .int .u8 N0.hour, .int .u16 N0.day, .bool N0.halt, .bool N0.carry] ∧ Has wr (u3.heap.size + 1) #[.int .u8 N1.sec, .int .u8 N1.min, .int .u8 N1.hour, .int .u16 N1.day, .bool N1.halt, .bool N1.carry] ∧ Has wr (bN) #[.int .u8 R.sec, .int .u8 R.min, .int .u8 R.hour, .int .u16 R.day, .bool R.halt, .bool R.carry] ∧ Kept w wr) (fun i _ => 13 - (intOf i).toNat)
  case atStart => exact ⟨0, by omega, rfl, HN0.out, HN1.out, HN2.out, HN3.out, HN.out, KN.out⟩
  case round =>
    obtain ⟨j, hj, rfl, h0, h1, h2, h3, h4, hkt⟩ := hrel
    have KT := hid hkt
    have G0 := hid h0
    have G1 := hid h1
    have G2 := hid h2
    have G3 := hid h3
    have G4 := hid h4
    clear h0 h1 h2 h3 h4 hkt HN KN HN0 HN1 HN2 HN3
    obtain ⟨z10b0, c10b0⟩ := id G0.out
    have f10b0c0 := c10b0 0
    have f10b0c1 := c10b0 1
    have f10b0c2 := c10b0 2
    have f10b0c3 := c10b0 3
    have f10b0c4 := c10b0 4
    have f10b0c5 := c10b0 5
    simp at f10b0c0 f10b0c1 f10b0c2 f10b0c3 f10b0c4 f10b0c5
    clear c10b0
    obtain ⟨z10b1, c10b1⟩ := id G1.out
    have f10b1c0 := c10b1 0
    have f10b1c1 := c10b1 1
    have f10b1c2 := c10b1 2
    have f10b1c3 := c10b1 3
    have f10b1c4 := c10b1 4
    have f10b1c5 := c10b1 5
    simp at f10b1c0 f10b1c1 f10b1c2 f10b1c3 f10b1c4 f10b1c5
    clear c10b1
    obtain ⟨z10b2, c10b2⟩ := id G2.out
    have f10b2c0 := c10b2 0
    have f10b2c1 := c10b2 1
    have f10b2c2 := c10b2 2
    have f10b2c3 := c10b2 3
    have f10b2c4 := c10b2 4
    have f10b2c5 := c10b2 5
    simp at f10b2c0 f10b2c1 f10b2c2 f10b2c3 f10b2c4 f10b2c5
    clear c10b2
    obtain ⟨z10b3, c10b3⟩ := id G3.out
    have f10b3c0 := c10b3 0
    have f10b3c1 := c10b3 1
    have f10b3c2 := c10b3 2
    have f10b3c3 := c10b3 3
    have f10b3c4 := c10b3 4
    have f10b3c5 := c10b3 5
    simp at f10b3c0 f10b3c1 f10b3c2 f10b3c3 f10b3c4 f10b3c5
    clear c10b3
    obtain ⟨z10b4, c10b4⟩ := id G4.out
    have f10b4c0 := c10b4 0
    have f10b4c1 := c10b4 1
    have f10b4c2 := c10b4 2
    have f10b4c3 := c10b4 3
    have f10b4c4 := c10b4 4
    have f10b4c5 := c10b4 5
    simp at f10b4c0 f10b4c1 f10b4c2 f10b4c3 f10b4c4 f10b4c5
    clear c10b4
    by_cases hlt : j < 5
    · have d1 : decide (8 + (j : Int) ≤ 12) = true := decide_eq_true (by omega)
      have hi : 8 ≤ 8 + (j : Int) ∧ 8 + (j : Int) ≤ 12 := by omega
      have D5 := hid (fun u => C5.out (8 + (j : Int)) u)
      have D6 := hid (fun u => C6.out (8 + (j : Int)) u)
      rw [regE_in _ hi] at D5 D6
      obtain ⟨f1, f2⟩ := RF.out _ hi
      have wj : IntKind.i64.wrap (8 + (j : Int) + 1) = 8 + ((j + 1 : Nat) : Int) := by rw [IntKind.wrap_i64]; omega
      generalize readC R (8 + (j : Int)) = B2 at *
      generalize readC ⟨a0c0, a0c1, a0c2, a0c3, a0c4, a0c5⟩ (8 + (j : Int)) = A2 at *
      clear hi
      by_cases q : 8 + (j : Int) = K
      · have e1 : ((8 + (j : Int)) != K) = false := by simpa using q
        have e2 : ((8 + (j : Int)) == K) = true := by simpa using q
        have e3 := f2 q
        clear f1 f2 q hK
        go_wp2_with fail
        refine (D5.out _).mono ?_
        rintro e u11 ⟨rfl, k11⟩
        have K11 := hid (KT.out.trans k11)
        have H11b0 := hid (hasK k11 G0.out)
        have H11b1 := hid (hasK k11 G1.out)
        try simp only [World.size_alloc] at H11b1
        have H11b2 := hid (hasK k11 G2.out)
        have H11b3 := hid (hasK k11 G3.out)
        try simp only [World.size_alloc] at H11b3
        have H11b4 := hid (hasK k11 G4.out)
        clear z10b0 f10b0c0 f10b0c1 f10b0c2 f10b0c3 f10b0c4 f10b0c5 z10b1 f10b1c0 f10b1c1 f10b1c2 f10b1c3 f10b1c4 f10b1c5 z10b2 f10b2c0 f10b2c1 f10b2c2 f10b2c3 f10b2c4 f10b2c5 z10b3 f10b3c0 f10b3c1 f10b3c2 f10b3c3 f10b3c4 f10b3c5 z10b4 f10b4c0 f10b4c1 f10b4c2 f10b4c3 f10b4c4 f10b4c5
        obtain ⟨z11b0, c11b0⟩ := id H11b0.out
        have f11b0c0 := c11b0 0
        have f11b0c1 := c11b0 1
        have f11b0c2 := c11b0 2
        have f11b0c3 := c11b0 3
        have f11b0c4 := c11b0 4
        have f11b0c5 := c11b0 5
        simp at f11b0c0 f11b0c1 f11b0c2 f11b0c3 f11b0c4 f11b0c5
        clear c11b0
        obtain ⟨z11b1, c11b1⟩ := id H11b1.out
        have f11b1c0 := c11b1 0
        have f11b1c1 := c11b1 1
        have f11b1c2 := c11b1 2
        have f11b1c3 := c11b1 3
        have f11b1c4 := c11b1 4
        have f11b1c5 := c11b1 5
        simp at f11b1c0 f11b1c1 f11b1c2 f11b1c3 f11b1c4 f11b1c5
        clear c11b1
        obtain ⟨z11b2, c11b2⟩ := id H11b2.out
        have f11b2c0 := c11b2 0
        have f11b2c1 := c11b2 1
        have f11b2c2 := c11b2 2
        have f11b2c3 := c11b2 3
        have f11b2c4 := c11b2 4
        have f11b2c5 := c11b2 5
        simp at f11b2c0 f11b2c1 f11b2c2 f11b2c3 f11b2c4 f11b2c5
        clear c11b2
        obtain ⟨z11b3, c11b3⟩ := id H11b3.out
        have f11b3c0 := c11b3 0
        have f11b3c1 := c11b3 1
        have f11b3c2 := c11b3 2
        have f11b3c3 := c11b3 3
        have f11b3c4 := c11b3 4
        have f11b3c5 := c11b3 5
        simp at f11b3c0 f11b3c1 f11b3c2 f11b3c3 f11b3c4 f11b3c5
        clear c11b3
        obtain ⟨z11b4, c11b4⟩ := id H11b4.out
        have f11b4c0 := c11b4 0
        have f11b4c1 := c11b4 1
        have f11b4c2 := c11b4 2
        have f11b4c3 := c11b4 3
        have f11b4c4 := c11b4 4
        have f11b4c5 := c11b4 5
        simp at f11b4c0 f11b4c1 f11b4c2 f11b4c3 f11b4c4 f11b4c5
        clear c11b4
        clear k11
        go_wp2_with fail
        refine (D6.out _).mono ?_
        rintro e u12 ⟨rfl, k12⟩
        have K12 := hid (K11.out.trans k12)
        have H12b0 := hid (hasK k12 H11b0.out)
        have H12b1 := hid (hasK k12 H11b1.out)
        try simp only [World.size_alloc] at H12b1
        have H12b2 := hid (hasK k12 H11b2.out)
        have H12b3 := hid (hasK k12 H11b3.out)
        try simp only [World.size_alloc] at H12b3
        have H12b4 := hid (hasK k12 H11b4.out)
        clear z11b0 f11b0c0 f11b0c1 f11b0c2 f11b0c3 f11b0c4 f11b0c5 z11b1 f11b1c0 f11b1c1 f11b1c2 f11b1c3 f11b1c4 f11b1c5 z11b2 f11b2c0 f11b2c1 f11b2c2 f11b2c3 f11b2c4 f11b2c5 z11b3 f11b3c0 f11b3c1 f11b3c2 f11b3c3 f11b3c4 f11b3c5 z11b4 f11b4c0 f11b4c1 f11b4c2 f11b4c3 f11b4c4 f11b4c5
        obtain ⟨z12b0, c12b0⟩ := id H12b0.out
        have f12b0c0 := c12b0 0
        have f12b0c1 := c12b0 1
        have f12b0c2 := c12b0 2
        have f12b0c3 := c12b0 3
        have f12b0c4 := c12b0 4
        have f12b0c5 := c12b0 5
        simp at f12b0c0 f12b0c1 f12b0c2 f12b0c3 f12b0c4 f12b0c5
        clear c12b0
        obtain ⟨z12b1, c12b1⟩ := id H12b1.out
        have f12b1c0 := c12b1 0
        have f12b1c1 := c12b1 1
        have f12b1c2 := c12b1 2
        have f12b1c3 := c12b1 3
        have f12b1c4 := c12b1 4
        have f12b1c5 := c12b1 5
        simp at f12b1c0 f12b1c1 f12b1c2 f12b1c3 f12b1c4 f12b1c5
        clear c12b1
        obtain ⟨z12b2, c12b2⟩ := id H12b2.out
        have f12b2c0 := c12b2 0
        have f12b2c1 := c12b2 1
        have f12b2c2 := c12b2 2
        have f12b2c3 := c12b2 3
        have f12b2c4 := c12b2 4
        have f12b2c5 := c12b2 5
        simp at f12b2c0 f12b2c1 f12b2c2 f12b2c3 f12b2c4 f12b2c5
        clear c12b2
        obtain ⟨z12b3, c12b3⟩ := id H12b3.out
        have f12b3c0 := c12b3 0
        have f12b3c1 := c12b3 1
        have f12b3c2 := c12b3 2
        have f12b3c3 := c12b3 3
        have f12b3c4 := c12b3 4
        have f12b3c5 := c12b3 5
        simp at f12b3c0 f12b3c1 f12b3c2 f12b3c3 f12b3c4 f12b3c5
        clear c12b3
        obtain ⟨z12b4, c12b4⟩ := id H12b4.out
        have f12b4c0 := c12b4 0
        have f12b4c1 := c12b4 1
        have f12b4c2 := c12b4 2
        have f12b4c3 := c12b4 3
        have f12b4c4 := c12b4 4
        have f12b4c5 := c12b4 5
        simp at f12b4c0 f12b4c1 f12b4c2 f12b4c3 f12b4c4 f12b4c5
        clear c12b4
        clear k12
        clear z12b0 f12b0c0 f12b0c1 f12b0c2 f12b0c3 f12b0c4 f12b0c5 z12b1 f12b1c0 f12b1c1 f12b1c2 f12b1c3 f12b1c4 f12b1c5 z12b2 f12b2c0 f12b2c1 f12b2c2 f12b2c3 f12b2c4 f12b2c5 z12b3 f12b3c0 f12b3c1 f12b3c2 f12b3c3 f12b3c4 f12b3c5 z12b4 f12b4c0 f12b4c1 f12b4c2 f12b4c3 f12b4c4 f12b4c5
        go_wp2
        go_roundw
        case rel => exact ⟨j + 1, by omega, by first | rfl | (rw [← wj]; rfl) | go_num, H12b0.out, H12b1.out, H12b2.out, H12b3.out, H12b4.out, K12.out⟩
        case measure => first | omega | (simp; omega) | (simp [intOf]; omega)
      · have e1 : ((8 + (j : Int)) != K) = true := by simpa using q
        have e2 : ((8 + (j : Int)) == K) = false := by simpa using q
        obtain rfl := f1 q
        clear f2 q f1 hK
        go_wp2_with fail
        refine (D5.out _).mono ?_
        rintro e u11 ⟨rfl, k11⟩
        have K11 := hid (KT.out.trans k11)
        have H11b0 := hid (hasK k11 G0.out)
        have H11b1 := hid (hasK k11 G1.out)
        try simp only [World.size_alloc] at H11b1
        have H11b2 := hid (hasK k11 G2.out)
        have H11b3 := hid (hasK k11 G3.out)
        try simp only [World.size_alloc] at H11b3
        have H11b4 := hid (hasK k11 G4.out)
        clear z10b0 f10b0c0 f10b0c1 f10b0c2 f10b0c3 f10b0c4 f10b0c5 z10b1 f10b1c0 f10b1c1 f10b1c2 f10b1c3 f10b1c4 f10b1c5 z10b2 f10b2c0 f10b2c1 f10b2c2 f10b2c3 f10b2c4 f10b2c5 z10b3 f10b3c0 f10b3c1 f10b3c2 f10b3c3 f10b3c4 f10b3c5 z10b4 f10b4c0 f10b4c1 f10b4c2 f10b4c3 f10b4c4 f10b4c5
        obtain ⟨z11b0, c11b0⟩ := id H11b0.out
        have f11b0c0 := c11b0 0
        have f11b0c1 := c11b0 1
        have f11b0c2 := c11b0 2
        have f11b0c3 := c11b0 3
        have f11b0c4 := c11b0 4
        have f11b0c5 := c11b0 5
        simp at f11b0c0 f11b0c1 f11b0c2 f11b0c3 f11b0c4 f11b0c5
        clear c11b0
        obtain ⟨z11b1, c11b1⟩ := id H11b1.out
        have f11b1c0 := c11b1 0
        have f11b1c1 := c11b1 1
        have f11b1c2 := c11b1 2
        have f11b1c3 := c11b1 3
        have f11b1c4 := c11b1 4
        have f11b1c5 := c11b1 5
        simp at f11b1c0 f11b1c1 f11b1c2 f11b1c3 f11b1c4 f11b1c5
        clear c11b1
        obtain ⟨z11b2, c11b2⟩ := id H11b2.out
        have f11b2c0 := c11b2 0
        have f11b2c1 := c11b2 1
        have f11b2c2 := c11b2 2
        have f11b2c3 := c11b2 3
        have f11b2c4 := c11b2 4
        have f11b2c5 := c11b2 5
        simp at f11b2c0 f11b2c1 f11b2c2 f11b2c3 f11b2c4 f11b2c5
        clear c11b2
        obtain ⟨z11b3, c11b3⟩ := id H11b3.out
        have f11b3c0 := c11b3 0
        have f11b3c1 := c11b3 1
        have f11b3c2 := c11b3 2
        have f11b3c3 := c11b3 3
        have f11b3c4 := c11b3 4
        have f11b3c5 := c11b3 5
        simp at f11b3c0 f11b3c1 f11b3c2 f11b3c3 f11b3c4 f11b3c5
        clear c11b3
        obtain ⟨z11b4, c11b4⟩ := id H11b4.out
        have f11b4c0 := c11b4 0
        have f11b4c1 := c11b4 1
        have f11b4c2 := c11b4 2
        have f11b4c3 := c11b4 3
        have f11b4c4 := c11b4 4
        have f11b4c5 := c11b4 5
        simp at f11b4c0 f11b4c1 f11b4c2 f11b4c3 f11b4c4 f11b4c5
        clear c11b4
        clear k11
        go_wp2_with fail
        refine (D6.out _).mono ?_
        rintro e u12 ⟨rfl, k12⟩
        have K12 := hid (K11.out.trans k12)
        have H12b0 := hid (hasK k12 H11b0.out)
        have H12b1 := hid (hasK k12 H11b1.out)
        try simp only [World.size_alloc] at H12b1
        have H12b2 := hid (hasK k12 H11b2.out)
        have H12b3 := hid (hasK k12 H11b3.out)
        try simp only [World.size_alloc] at H12b3
        have H12b4 := hid (hasK k12 H11b4.out)
        clear z11b0 f11b0c0 f11b0c1 f11b0c2 f11b0c3 f11b0c4 f11b0c5 z11b1 f11b1c0 f11b1c1 f11b1c2 f11b1c3 f11b1c4 f11b1c5 z11b2 f11b2c0 f11b2c1 f11b2c2 f11b2c3 f11b2c4 f11b2c5 z11b3 f11b3c0 f11b3c1 f11b3c2 f11b3c3 f11b3c4 f11b3c5 z11b4 f11b4c0 f11b4c1 f11b4c2 f11b4c3 f11b4c4 f11b4c5
        obtain ⟨z12b0, c12b0⟩ := id H12b0.out
        have f12b0c0 := c12b0 0
        have f12b0c1 := c12b0 1
        have f12b0c2 := c12b0 2
        have f12b0c3 := c12b0 3
        have f12b0c4 := c12b0 4
        have f12b0c5 := c12b0 5
        simp at f12b0c0 f12b0c1 f12b0c2 f12b0c3 f12b0c4 f12b0c5
        clear c12b0
        obtain ⟨z12b1, c12b1⟩ := id H12b1.out
        have f12b1c0 := c12b1 0
        have f12b1c1 := c12b1 1
        have f12b1c2 := c12b1 2
        have f12b1c3 := c12b1 3
        have f12b1c4 := c12b1 4
        have f12b1c5 := c12b1 5
        simp at f12b1c0 f12b1c1 f12b1c2 f12b1c3 f12b1c4 f12b1c5
        clear c12b1
        obtain ⟨z12b2, c12b2⟩ := id H12b2.out
        have f12b2c0 := c12b2 0
        have f12b2c1 := c12b2 1
        have f12b2c2 := c12b2 2
        have f12b2c3 := c12b2 3
        have f12b2c4 := c12b2 4
        have f12b2c5 := c12b2 5
        simp at f12b2c0 f12b2c1 f12b2c2 f12b2c3 f12b2c4 f12b2c5
        clear c12b2
        obtain ⟨z12b3, c12b3⟩ := id H12b3.out
        have f12b3c0 := c12b3 0
        have f12b3c1 := c12b3 1
        have f12b3c2 := c12b3 2
        have f12b3c3 := c12b3 3
        have f12b3c4 := c12b3 4
        have f12b3c5 := c12b3 5
        simp at f12b3c0 f12b3c1 f12b3c2 f12b3c3 f12b3c4 f12b3c5
        clear c12b3
        obtain ⟨z12b4, c12b4⟩ := id H12b4.out
        have f12b4c0 := c12b4 0
        have f12b4c1 := c12b4 1
        have f12b4c2 := c12b4 2
        have f12b4c3 := c12b4 3
        have f12b4c4 := c12b4 4
        have f12b4c5 := c12b4 5
        simp at f12b4c0 f12b4c1 f12b4c2 f12b4c3 f12b4c4 f12b4c5
        clear c12b4
        clear k12
        clear z12b0 f12b0c0 f12b0c1 f12b0c2 f12b0c3 f12b0c4 f12b0c5 z12b1 f12b1c0 f12b1c1 f12b1c2 f12b1c3 f12b1c4 f12b1c5 z12b2 f12b2c0 f12b2c1 f12b2c2 f12b2c3 f12b2c4 f12b2c5 z12b3 f12b3c0 f12b3c1 f12b3c2 f12b3c3 f12b3c4 f12b3c5 z12b4 f12b4c0 f12b4c1 f12b4c2 f12b4c3 f12b4c4 f12b4c5
        go_wp2
        go_roundw
        case rel => exact ⟨j + 1, by omega, by first | rfl | (rw [← wj]; rfl) | go_num, H12b0.out, H12b1.out, H12b2.out, H12b3.out, H12b4.out, K12.out⟩
        case measure => first | omega | (simp; omega) | (simp [intOf]; omega)
    · obtain rfl : j = 5 := by omega
      have hk12 : decide (8 + ((5 : Nat) : Int) ≤ 12) = false := decide_eq_false (by omega)
      have D6 := hid (fun u => C6.out K u)
      rw [regE_in K KB] at D6
      generalize readC R K = B2 at *
      go_wp2_with fail
      refine (D6.out _).mono ?_
      rintro e u21 ⟨rfl, k21⟩
      have K21 := hid (KT.out.trans k21)
      have H21b0 := hid (hasK k21 G0.out)
      have H21b1 := hid (hasK k21 G1.out)
      try simp only [World.size_alloc] at H21b1
      have H21b2 := hid (hasK k21 G2.out)
      have H21b3 := hid (hasK k21 G3.out)
      try simp only [World.size_alloc] at H21b3
      have H21b4 := hid (hasK k21 G4.out)
      clear z10b0 f10b0c0 f10b0c1 f10b0c2 f10b0c3 f10b0c4 f10b0c5 z10b1 f10b1c0 f10b1c1 f10b1c2 f10b1c3 f10b1c4 f10b1c5 z10b2 f10b2c0 f10b2c1 f10b2c2 f10b2c3 f10b2c4 f10b2c5 z10b3 f10b3c0 f10b3c1 f10b3c2 f10b3c3 f10b3c4 f10b3c5 z10b4 f10b4c0 f10b4c1 f10b4c2 f10b4c3 f10b4c4 f10b4c5
      obtain ⟨z21b0, c21b0⟩ := id H21b0.out
      have f21b0c0 := c21b0 0
      have f21b0c1 := c21b0 1
      have f21b0c2 := c21b0 2
      have f21b0c3 := c21b0 3
      have f21b0c4 := c21b0 4
      have f21b0c5 := c21b0 5
      simp at f21b0c0 f21b0c1 f21b0c2 f21b0c3 f21b0c4 f21b0c5
      clear c21b0
      obtain ⟨z21b1, c21b1⟩ := id H21b1.out
      have f21b1c0 := c21b1 0
      have f21b1c1 := c21b1 1
      have f21b1c2 := c21b1 2
      have f21b1c3 := c21b1 3
      have f21b1c4 := c21b1 4
      have f21b1c5 := c21b1 5
      simp at f21b1c0 f21b1c1 f21b1c2 f21b1c3 f21b1c4 f21b1c5
      clear c21b1
      obtain ⟨z21b2, c21b2⟩ := id H21b2.out
      have f21b2c0 := c21b2 0
      have f21b2c1 := c21b2 1
      have f21b2c2 := c21b2 2
      have f21b2c3 := c21b2 3
      have f21b2c4 := c21b2 4
      have f21b2c5 := c21b2 5
      simp at f21b2c0 f21b2c1 f21b2c2 f21b2c3 f21b2c4 f21b2c5
      clear c21b2
      obtain ⟨z21b3, c21b3⟩ := id H21b3.out
      have f21b3c0 := c21b3 0
      have f21b3c1 := c21b3 1
      have f21b3c2 := c21b3 2
      have f21b3c3 := c21b3 3
      have f21b3c4 := c21b3 4
      have f21b3c5 := c21b3 5
      simp at f21b3c0 f21b3c1 f21b3c2 f21b3c3 f21b3c4 f21b3c5
      clear c21b3
      obtain ⟨z21b4, c21b4⟩ := id H21b4.out
      have f21b4c0 := c21b4 0
      have f21b4c1 := c21b4 1
      have f21b4c2 := c21b4 2
      have f21b4c3 := c21b4 3
      have f21b4c4 := c21b4 4
      have f21b4c5 := c21b4 5
      simp at f21b4c0 f21b4c1 f21b4c2 f21b4c3 f21b4c4 f21b4c5
      clear c21b4
      clear k21
      go_wp2_with fail
      refine (C7.out _).mono ?_
      rintro e u22 ⟨rfl, k22⟩
      have K22 := hid (K21.out.trans k22)
      have H22b0 := hid (hasK k22 H21b0.out)
      have H22b1 := hid (hasK k22 H21b1.out)
      try simp only [World.size_alloc] at H22b1
      have H22b2 := hid (hasK k22 H21b2.out)
      have H22b3 := hid (hasK k22 H21b3.out)
      try simp only [World.size_alloc] at H22b3
      have H22b4 := hid (hasK k22 H21b4.out)
      clear z21b0 f21b0c0 f21b0c1 f21b0c2 f21b0c3 f21b0c4 f21b0c5 z21b1 f21b1c0 f21b1c1 f21b1c2 f21b1c3 f21b1c4 f21b1c5 z21b2 f21b2c0 f21b2c1 f21b2c2 f21b2c3 f21b2c4 f21b2c5 z21b3 f21b3c0 f21b3c1 f21b3c2 f21b3c3 f21b3c4 f21b3c5 z21b4 f21b4c0 f21b4c1 f21b4c2 f21b4c3 f21b4c4 f21b4c5
      obtain ⟨z22b0, c22b0⟩ := id H22b0.out
      have f22b0c0 := c22b0 0
      have f22b0c1 := c22b0 1
      have f22b0c2 := c22b0 2
      have f22b0c3 := c22b0 3
      have f22b0c4 := c22b0 4
      have f22b0c5 := c22b0 5
      simp at f22b0c0 f22b0c1 f22b0c2 f22b0c3 f22b0c4 f22b0c5
      clear c22b0
      obtain ⟨z22b1, c22b1⟩ := id H22b1.out
      have f22b1c0 := c22b1 0
      have f22b1c1 := c22b1 1
      have f22b1c2 := c22b1 2
      have f22b1c3 := c22b1 3
      have f22b1c4 := c22b1 4
      have f22b1c5 := c22b1 5
      simp at f22b1c0 f22b1c1 f22b1c2 f22b1c3 f22b1c4 f22b1c5
      clear c22b1
      obtain ⟨z22b2, c22b2⟩ := id H22b2.out
      have f22b2c0 := c22b2 0
      have f22b2c1 := c22b2 1
      have f22b2c2 := c22b2 2
      have f22b2c3 := c22b2 3
      have f22b2c4 := c22b2 4
      have f22b2c5 := c22b2 5
      simp at f22b2c0 f22b2c1 f22b2c2 f22b2c3 f22b2c4 f22b2c5
      clear c22b2
      obtain ⟨z22b3, c22b3⟩ := id H22b3.out
      have f22b3c0 := c22b3 0
      have f22b3c1 := c22b3 1
      have f22b3c2 := c22b3 2
      have f22b3c3 := c22b3 3
      have f22b3c4 := c22b3 4
      have f22b3c5 := c22b3 5
      simp at f22b3c0 f22b3c1 f22b3c2 f22b3c3 f22b3c4 f22b3c5
      clear c22b3
      obtain ⟨z22b4, c22b4⟩ := id H22b4.out
      have f22b4c0 := c22b4 0
      have f22b4c1 := c22b4 1
      have f22b4c2 := c22b4 2
      have f22b4c3 := c22b4 3
      have f22b4c4 := c22b4 4
      have f22b4c5 := c22b4 5
      simp at f22b4c0 f22b4c1 f22b4c2 f22b4c3 f22b4c4 f22b4c5
      clear c22b4
      clear k22
      go_wp2_with fail
      have HN := hid (has_alloc u22 #[.int .u8 R.sec, .int .u8 R.min, .int .u8 R.hour, .int .u16 R.day, .bool R.halt, .bool R.carry] 24)
      have KN := hid (K22.out.alloc (.cells #[.int .u8 R.sec, .int .u8 R.min, .int .u8 R.hour, .int .u16 R.day, .bool R.halt, .bool R.carry] 24))
      have HN0 := hid (has_past H22b0.out (.cells #[.int .u8 R.sec, .int .u8 R.min, .int .u8 R.hour, .int .u16 R.day, .bool R.halt, .bool R.carry] 24))
      have HN1 := hid (has_past H22b1.out (.cells #[.int .u8 R.sec, .int .u8 R.min, .int .u8 R.hour, .int .u16 R.day, .bool R.halt, .bool R.carry] 24))
      have HN2 := hid (has_past H22b2.out (.cells #[.int .u8 R.sec, .int .u8 R.min, .int .u8 R.hour, .int .u16 R.day, .bool R.halt, .bool R.carry] 24))
      have HN3 := hid (has_past H22b3.out (.cells #[.int .u8 R.sec, .int .u8 R.min, .int .u8 R.hour, .int .u16 R.day, .bool R.halt, .bool R.carry] 24))
      have HN4 := hid (has_past H22b4.out (.cells #[.int .u8 R.sec, .int .u8 R.min, .int .u8 R.hour, .int .u16 R.day, .bool R.halt, .bool R.carry] 24))
      obtain ⟨uM, huN⟩ : ∃ v, u22.alloc (.cells #[.int .u8 R.sec, .int .u8 R.min, .int .u8 R.hour, .int .u16 R.day, .bool R.halt, .bool R.carry] 24) = v := ⟨_, rfl⟩
      obtain ⟨bM, hbN⟩ : ∃ v, u22.heap.size = v := ⟨_, rfl⟩
      rw [huN, hbN] at HN
      rw [huN] at KN HN0 HN1 HN2 HN3 HN4
      simp only [huN, hbN]
      clear huN hbN
      clear z22b0 f22b0c0 f22b0c1 f22b0c2 f22b0c3 f22b0c4 f22b0c5 z22b1 f22b1c0 f22b1c1 f22b1c2 f22b1c3 f22b1c4 f22b1c5 z22b2 f22b2c0 f22b2c1 f22b2c2 f22b2c3 f22b2c4 f22b2c5 z22b3 f22b3c0 f22b3c1 f22b3c2 f22b3c3 f22b3c4 f22b3c5 z22b4 f22b4c0 f22b4c1 f22b4c2 f22b4c3 f22b4c4 f22b4c5
      obtain ⟨z99b0, c99b0⟩ := id HN0.out
      have f99b0c0 := c99b0 0
      have f99b0c1 := c99b0 1
      have f99b0c2 := c99b0 2
      have f99b0c3 := c99b0 3
      have f99b0c4 := c99b0 4
      have f99b0c5 := c99b0 5
      simp at f99b0c0 f99b0c1 f99b0c2 f99b0c3 f99b0c4 f99b0c5
      clear c99b0
      obtain ⟨z99b1, c99b1⟩ := id HN1.out
      have f99b1c0 := c99b1 0
      have f99b1c1 := c99b1 1
      have f99b1c2 := c99b1 2
      have f99b1c3 := c99b1 3
      have f99b1c4 := c99b1 4
      have f99b1c5 := c99b1 5
      simp at f99b1c0 f99b1c1 f99b1c2 f99b1c3 f99b1c4 f99b1c5
      clear c99b1
      obtain ⟨z99b2, c99b2⟩ := id HN2.out
      have f99b2c0 := c99b2 0
      have f99b2c1 := c99b2 1
      have f99b2c2 := c99b2 2
      have f99b2c3 := c99b2 3
      have f99b2c4 := c99b2 4
      have f99b2c5 := c99b2 5
      simp at f99b2c0 f99b2c1 f99b2c2 f99b2c3 f99b2c4 f99b2c5
      clear c99b2
      obtain ⟨z99b3, c99b3⟩ := id HN3.out
      have f99b3c0 := c99b3 0
      have f99b3c1 := c99b3 1
      have f99b3c2 := c99b3 2
      have f99b3c3 := c99b3 3
      have f99b3c4 := c99b3 4
      have f99b3c5 := c99b3 5
      simp at f99b3c0 f99b3c1 f99b3c2 f99b3c3 f99b3c4 f99b3c5
      clear c99b3
      obtain ⟨z99b4, c99b4⟩ := id HN4.out
      have f99b4c0 := c99b4 0
      have f99b4c1 := c99b4 1
      have f99b4c2 := c99b4 2
      have f99b4c3 := c99b4 3
      have f99b4c4 := c99b4 4
      have f99b4c5 := c99b4 5
      simp at f99b4c0 f99b4c1 f99b4c2 f99b4c3 f99b4c4 f99b4c5
      clear c99b4
      obtain ⟨z99b5, c99b5⟩ := id HN.out
      have f99b5c0 := c99b5 0
      have f99b5c1 := c99b5 1
      have f99b5c2 := c99b5 2
      have f99b5c3 := c99b5 3
      have f99b5c4 := c99b5 4
      have f99b5c5 := c99b5 5
      simp at f99b5c0 f99b5c1 f99b5c2 f99b5c3 f99b5c4 f99b5c5
      clear c99b5
      go_region_held3 (fun w' => w.heap.size < w'.heap.size ∧ w'.cell? ⟨w.heap.size, 0, none⟩ = some (.int .u8 a0c0) ∧ w'.cell? ⟨w.heap.size, 1, none⟩ = some (.int .u8 a0c1) ∧ w'.cell? ⟨w.heap.size, 2, none⟩ = some (.int .u8 a0c2) ∧ w'.cell? ⟨w.heap.size, 3, none⟩ = some (.int .u16 a0c3) ∧ w'.cell? ⟨w.heap.size, 4, none⟩ = some (.bool a0c4) ∧ w'.cell? ⟨w.heap.size, 5, none⟩ = some (.bool a0c5) ∧ w.heap.size + 1 < w'.heap.size ∧ w'.cell? ⟨w.heap.size + 1, 0, none⟩ = some (.int .u8 a1c0) ∧ w'.cell? ⟨w.heap.size + 1, 1, none⟩ = some (.int .u8 a1c1) ∧ w'.cell? ⟨w.heap.size + 1, 2, none⟩ = some (.int .u8 a1c2) ∧ w'.cell? ⟨w.heap.size + 1, 3, none⟩ = some (.int .u16 a1c3) ∧ w'.cell? ⟨w.heap.size + 1, 4, none⟩ = some (.bool a1c4) ∧ w'.cell? ⟨w.heap.size + 1, 5, none⟩ = some (.bool a1c5) ∧ u3.heap.size < w'.heap.size ∧ w'.cell? ⟨u3.heap.size, 0, none⟩ = some (.int .u8 N0.sec) ∧ w'.cell? ⟨u3.heap.size, 1, none⟩ = some (.int .u8 N0.min) ∧ w'.cell? ⟨u3.heap.size, 2, none⟩ = some (.int .u8 N0.hour) ∧ w'.cell? ⟨u3.heap.size, 3, none⟩ = some (.int .u16 N0.day) ∧ w'.cell? ⟨u3.heap.size, 4, none⟩ = some (.bool N0.halt) ∧ w'.cell? ⟨u3.heap.size, 5, none⟩ = some (.bool N0.carry) ∧ u3.heap.size + 1 < w'.heap.size ∧ w'.cell? ⟨u3.heap.size + 1, 0, none⟩ = some (.int .u8 N1.sec) ∧ w'.cell? ⟨u3.heap.size + 1, 1, none⟩ = some (.int .u8 N1.min) ∧ w'.cell? ⟨u3.heap.size + 1, 2, none⟩ = some (.int .u8 N1.hour) ∧ w'.cell? ⟨u3.heap.size + 1, 3, none⟩ = some (.int .u16 N1.day) ∧ w'.cell? ⟨u3.heap.size + 1, 4, none⟩ = some (.bool N1.halt) ∧ w'.cell? ⟨u3.heap.size + 1, 5, none⟩ = some (.bool N1.carry) ∧ bN < w'.heap.size ∧ w'.cell? ⟨bN, 0, none⟩ = some (.int .u8 R.sec) ∧ w'.cell? ⟨bN, 1, none⟩ = some (.int .u8 R.min) ∧ w'.cell? ⟨bN, 2, none⟩ = some (.int .u8 R.hour) ∧ w'.cell? ⟨bN, 3, none⟩ = some (.int .u16 R.day) ∧ w'.cell? ⟨bN, 4, none⟩ = some (.bool R.halt) ∧ w'.cell? ⟨bN, 5, none⟩ = some (.bool R.carry) ∧ bM < w'.heap.size ∧ w'.cell? ⟨bM, 0, none⟩ = some (.int .u8 R.sec) ∧ w'.cell? ⟨bM, 1, none⟩ = some (.int .u8 R.min) ∧ w'.cell? ⟨bM, 2, none⟩ = some (.int .u8 R.hour) ∧ w'.cell? ⟨bM, 3, none⟩ = some (.int .u16 R.day) ∧ w'.cell? ⟨bM, 4, none⟩ = some (.bool R.halt) ∧ w'.cell? ⟨bM, 5, none⟩ = some (.bool R.carry)) (go_keep) (first | (go_at_call_of 11 (Value.int IntKind.u8 a0c0); refine (C8.out _).mono ?_; rintro e v1 ⟨rfl, q1⟩; have D1b0 := hasK q1 HN0.out; obtain ⟨zD1b0, cD1b0⟩ := id D1b0; have D1b1 := hasK q1 HN1.out; obtain ⟨zD1b1, cD1b1⟩ := id D1b1; have D1b2 := hasK q1 HN2.out; obtain ⟨zD1b2, cD1b2⟩ := id D1b2; have D1b3 := hasK q1 HN3.out; obtain ⟨zD1b3, cD1b3⟩ := id D1b3; have D1b4 := hasK q1 HN4.out; obtain ⟨zD1b4, cD1b4⟩ := id D1b4; have D1b5 := hasK q1 HN.out; obtain ⟨zD1b5, cD1b5⟩ := id D1b5) | (go_at_call_of 11 (Value.int IntKind.u8 a1c0); refine (C9.out _).mono ?_; rintro e v2 ⟨rfl, q2⟩; have D2b0 := hasK q2 D1b0; obtain ⟨zD2b0, cD2b0⟩ := id D2b0; have D2b1 := hasK q2 D1b1; obtain ⟨zD2b1, cD2b1⟩ := id D2b1; have D2b2 := hasK q2 D1b2; obtain ⟨zD2b2, cD2b2⟩ := id D2b2; have D2b3 := hasK q2 D1b3; obtain ⟨zD2b3, cD2b3⟩ := id D2b3; have D2b4 := hasK q2 D1b4; obtain ⟨zD2b4, cD2b4⟩ := id D2b4; have D2b5 := hasK q2 D1b5; obtain ⟨zD2b5, cD2b5⟩ := id D2b5))
      all_goals
        go_wp2
        go_ret
        exact ⟨rfl, (KN.out.drew.trans q1).trans q2⟩

set_option maxRecDepth 100000 in
theorem contract (H : Type) (enc : TypeId × Value → H) (fi : Stop.Interp) (W : World) (base : Nat) (args : Array Value) (ds gs : List (DataW H)) (before : List MemPlace)
    (hval : ∀ (j : Nat) t v, Try.f3.params[j]? = some t → args[j]? = some v → Value.okWide Try.prog W .any base t v)
    (hW : DataW.Whole enc Try.prog Try.f3.params.toList (OpenSpec.ofChange Rows.clockBackSpec).vars false W args.toList ds gs before)
    (hk0 : ∀ k, (OpenSpec.ofChange Rows.clockBackSpec).cond = some k → k H (ds ++ gs) = true)
    (hsz0 : (DataW.weightsEach Try.prog (Try.f3.params.toList ++ (OpenSpec.ofChange Rows.clockBackSpec).bare.plain.varTypes Try.prog) (ds ++ gs)).all (· ≤ reachBytes) = true) (hL : laidMetH Try.prog Rows.clockBackRow.laid W) :
    Calls Try.prog 3 args W fun e W' => ∃ v, e = .returned v ∧ ((OpenSpec.ofChange Rows.clockBackSpec).at fi).post enc Try.prog Try.f3 false true false false W args v W' := by
  have hW' := hW
  obtain ⟨p, q, hA0, hV, rfl, hfz, hnd⟩ := hW
  have hA : DataW.TrodAll enc Try.prog W 0 (fun _ => true) true Try.f3.params.toList args.toList ds p := hA0
  rw [Try.params3] at hA hval
  obtain ⟨v0, vs0, d0, ds0, p0, q0, hargs, rfl, rfl, h0, r0x⟩ := trodAll_cons hA
  obtain ⟨v1, vs1, d1, ds1, p1, q1, rfl, rfl, rfl, h1, r1x⟩ := trodAll_cons r0x
  obtain ⟨v2, vs2, d2, ds2, p2, q2, rfl, rfl, rfl, h2, r2x⟩ := trodAll_cons r1x
  obtain ⟨v3, vs3, d3, ds3, p3, q3, rfl, rfl, rfl, h3, r3x⟩ := trodAll_cons r2x
  obtain ⟨rfl, rfl, rfl⟩ := trodAll_nil r3x
  obtain rfl : args = #[v0, v1, v2, v3] := by cases args; simp_all
  obtain ⟨rfl, rfl⟩ := trodVars_none hV
  have hsz : (DataW.weightsEach Try.prog [24, 24, 5, 5] [d0, d1, d2, d3]).all (· ≤ reachBytes) = true := by
    have q := hsz0
    rw [show Try.f3.params.toList ++ (OpenSpec.ofChange Rows.clockBackSpec).bare.plain.varTypes Try.prog = [24, 24, 5, 5] by kernel_rfl] at q
    simpa using q
  obtain ⟨rfl, ⟨l0, rfl, e0, f0⟩, k0⟩ := flat_open (n := 8) (c := 6) (L := [(0, .int .u8), (1, .int .u8), (2, .int .u8), (3, .int .u16), (4, .bool), (5, .bool)]) Try.underlying24 (by kernel_rfl) (by kernel_rfl) (hval 0 24 v0 rfl rfl) h0
  obtain ⟨a0c0, a0c1, a0c2, a0c3, a0c4, a0c5, rfl, w0c0, w0c1, w0c2, w0c3⟩ := fits24 e0 f0
  obtain ⟨rfl, ⟨l1, rfl, e1, f1⟩, k1⟩ := flat_open (n := 8) (c := 6) (L := [(0, .int .u8), (1, .int .u8), (2, .int .u8), (3, .int .u16), (4, .bool), (5, .bool)]) Try.underlying24 (by kernel_rfl) (by kernel_rfl) (hval 1 24 v1 rfl rfl) h1
  obtain ⟨a1c0, a1c1, a1c2, a1c3, a1c4, a1c5, rfl, w1c0, w1c1, w1c2, w1c3⟩ := fits24 e1 f1
  obtain ⟨a2, rfl, rfl, rfl, w2⟩ := open_int Try.underlying5 (hval 2 5 v2 rfl rfl) h2
  obtain ⟨a3, rfl, rfl, rfl, w3⟩ := open_int Try.underlying5 (hval 3 5 v3 rfl rfl) h3
  clear hA0
  refine (walk a0c0 a0c1 a0c2 a0c3 a0c4 a0c5 a1c0 a1c1 a1c2 a1c3 a1c4 a1c5 a2 a3 W w0c0 w0c1 w0c2 w0c3 w1c0 w1c1 w1c2 w1c3 w2 w3).mono fun e W' ⟨he, hg⟩ => ?_
  subst he
  exact ⟨_, rfl, _, _, _, [], _, [], hW', trodAll_mk1 (shut_bool Try.underlying4 _), (trodAll_cons_mk (k0 _ _ _ _) (trodAll_cons_mk (k1 _ _ _ _) (trodAll_cons_mk (shut_int Try.underlying5 w2) (trodAll_cons_mk (shut_int Try.underlying5 w3) trodAll_mk0)))), rfl, hg.frame _, fun h => by cases h⟩
theorem start_met (os : Os) (args : Array Value) : laidMetH Try.prog Rows.clockBackRow.laid ((World.laidAll Try.prog os Rows.clockBackRow.laid).forCall (fun _ _ => 0) ⟨#[], args, []⟩).memory := by
  exact ⟨[], rfl, List.nodup_nil, fun _ _ h => by cases h⟩
theorem reads (os : Os) {H : Type} (enc : TypeId × Value → H) : ∃ places, DataW.whole enc Try.prog ((World.laidAll Try.prog os Rows.clockBackRow.laid).forCall (fun _ _ => 0) ⟨#[], #[.agg #[.int .u8 0, .int .u8 0, .int .u8 0, .int .u16 0, .bool false, .bool false], .agg #[.int .u8 0, .int .u8 0, .int .u8 0, .int .u16 0, .bool false, .bool false], .int .u8 0, .int .u8 0], []⟩).memory Try.f3.params.toList (OpenSpec.ofChange Rows.clockBackSpec).vars false #[.agg #[.int .u8 0, .int .u8 0, .int .u8 0, .int .u16 0, .bool false, .bool false], .agg #[.int .u8 0, .int .u8 0, .int .u8 0, .int .u16 0, .bool false, .bool false], .int .u8 0, .int .u8 0].toList 8 = some ([.agg [.lit (.int .u8 0), .lit (.int .u8 0), .lit (.int .u8 0), .lit (.int .u16 0), .lit (.bool false), .lit (.bool false)], .agg [.lit (.int .u8 0), .lit (.int .u8 0), .lit (.int .u8 0), .lit (.int .u16 0), .lit (.bool false), .lit (.bool false)], .lit (.int .u8 0), .lit (.int .u8 0)], [], places) :=
  ⟨[], by kernel_rfl⟩
set_option maxRecDepth 100000 in
theorem lifted (os : Os) (started : os.Started) (H : Type) (enc : TypeId × Value → H) (fi : Stop.Interp) :
    ReturnsInHanded {} Try.checked os 3 .any ((OpenSpec.ofChange Rows.clockBackSpec).preRow enc Try.prog Try.f3 Rows.clockBackRow.domain false Rows.clockBackRow.laid) (((OpenSpec.ofChange Rows.clockBackSpec).at fi).post enc Try.prog Try.f3 false true false false) := by
  obtain ⟨places, hx⟩ := reads os enc
  refine returnsInHanded_of_row (C := Try.checked) (s := (OpenSpec.ofChange Rows.clockBackSpec)) own started (by kernel_rfl) Try.func3
    (witness_row_atRef (enc := enc) (C := Try.checked) false (World.laidAll Try.prog os Rows.clockBackRow.laid) #[.agg #[.int .u8 0, .int .u8 0, .int .u8 0, .int .u16 0, .bool false, .bool false], .agg #[.int .u8 0, .int .u8 0, .int .u8 0, .int .u16 0, .bool false, .bool false], .int .u8 0, .int .u8 0] (World.laidAll_os _ _ _) (by kernel_rfl) (by kernel_rfl) (by kernel_rfl)
      (OpenSpec.preRow_of_cond 8 hx (by kernel_rfl) (fun k hk => by cases hk) (by kernel_rfl) (start_met os _))) ?_
  intro W base args ds gs before hval hW _ hk hsz hL _ _
  exact contract H enc fi W base args ds gs before hval hW hk hsz hL
theorem said : Rows.ClockBackSaid :=
  OpenClaim.holds_of_cond 3 Try.f3 rfl rfl rfl rfl rfl rfl rfl ⟨rfl, rfl, rfl, rfl, rfl⟩ rfl rfl rfl rfl rfl (by kernel_rfl) Try.func3 (by kernel_rfl)
    (of_decide_eq_true (by kernel_rfl)) (by unfold Func.isWrapper; first | (rw [if_pos (by decide +kernel)]; kernel_rfl) | (rw [if_neg (by decide +kernel)]; exact ⟨rfl, rfl⟩))
    (fun os started H enc _ fi => by rw [OpenClaim.pre_eq_preRow]; exact lifted os started H enc fi)
end Go.Proofs.Ytpnidlibgpbjgab.clockBack
namespace Go.Proofs.Ytpnidlibgpbjgab
theorem clockBack_holds : Rows.ClockBackSaid := clockBack.said
end Go.Proofs.Ytpnidlibgpbjgab
