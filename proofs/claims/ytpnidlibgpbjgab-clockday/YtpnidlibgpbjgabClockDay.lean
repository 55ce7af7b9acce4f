/- For every clock: the law ClockDay returns true (no condition). -/
import Derived.Test.YtpnidlibgpbjgabRows
import Derived.WalkKit
import Derived.ProofKit
import Derived.OpenShut
import Derived.ShutString
import Derived.ChangeOld
import Derived.Deep.RegionHeld3
import Derived.Deep.DeepCutAuto
import Derived.LaidMore
import Derived.Lay
import Derived.Stop.Joined
import Derived.SevenTiedAt
import Derived.Deep.DeepHandedRow
import Derived.Deep.DeepWitnessRowRef
import Derived.SizedLaws
import Derived.SliceStrings
import Derived.Test.YtpnidlibgpbjgabK6
import Derived.Test.YtpnidlibgpbjgabShown9
import Derived.Test.YtpnidlibgpbjgabCk9k
namespace Go.Proofs.Ytpnidlibgpbjgab.clockDay
open Go.ChangeShapes Go.WideShapes Go.ChangeAt Go.RowKit
open Go.ChangeMaps (open_string shut_string)
set_option linter.unusedVariables false

theorem own : ownKnob Try.prog.godebug = none := by kernel_rfl
theorem laidOut : laidOutB Try.prog = true := by kernel_rfl

set_option maxRecDepth 100000 in
set_option maxHeartbeats 8000000 in
theorem walk (a0 : Int) (a1 : Int) (a2 : Int) (a3 : Int) (w : World) (w0 : (Lit.int .u8 a0).wf = true) (w1 : (Lit.int .u8 a1).wf = true) (w2 : (Lit.int .u8 a2).wf = true) (w3 : (Lit.int .u16 a3).wf = true) :
    Calls Try.prog 4 #[.int .u8 a0, .int .u8 a1, .int .u8 a2, .int .u16 a3] w fun e w' => e = .returned (.bool true) ∧ Kept w w' := by
  obtain ⟨a00, a01⟩ := bounds_u8 w0
  obtain ⟨a10, a11⟩ := bounds_u8 w1
  obtain ⟨a20, a21⟩ := bounds_u8 w2
  obtain ⟨a30, a31⟩ := bounds_u16 w3
  have SH := hid (fun u => shown9 u)
  have t0 : Int.tmod a0 60 = a0 % 60 := Int.tmod_eq_emod_of_nonneg a00
  have t1 : Int.tmod a1 60 = a1 % 60 := Int.tmod_eq_emod_of_nonneg a10
  have t2 : Int.tmod a2 24 = a2 % 24 := Int.tmod_eq_emod_of_nonneg a20
  have t3 : Int.tmod a3 512 = a3 % 512 := Int.tmod_eq_emod_of_nonneg a30
  have DY : CkDay ⟨a0 % 60, a1 % 60, a2 % 24, a3 % 512, false, false⟩ := ⟨by show 0 ≤ _ % 60; omega, by show _ % 60 ≤ 59; omega, by show 0 ≤ _ % 60; omega, by show _ % 60 ≤ 59; omega, by show 0 ≤ _ % 24; omega, by show _ % 24 ≤ 23; omega, by show 0 ≤ _ % 512; omega, by show _ % 512 ≤ 511; omega, rfl⟩
  have v0 : IntKind.u8.wrap (a0 % 60) = a0 % 60 := by rw [IntKind.wrap_u8]; omega
  have v1 : IntKind.u8.wrap (a1 % 60) = a1 % 60 := by rw [IntKind.wrap_u8]; omega
  have v2 : IntKind.u8.wrap (a2 % 24) = a2 % 24 := by rw [IntKind.wrap_u8]; omega
  have v3 : IntKind.u16.wrap (a3 % 512) = a3 % 512 := by rw [IntKind.wrap_u16]; omega
  have d0 : 0 ≤ a3 % 512 := by omega
  have d1 : a3 % 512 ≤ 511 := by omega
  generalize a0 % 60 = S at *
  generalize a1 % 60 = M at *
  generalize a2 % 24 = H at *
  generalize a3 % 512 = D at *
  have x1 : IntKind.u16.wrap (D + 1) = D + 1 := by rw [IntKind.wrap_u16]; omega
  have x2 : (D + 1) % 65536 = D + 1 := by omega
  have x3 : Int.tmod (D + 1) 512 = (D + 1) % 512 := Int.tmod_eq_emod_of_nonneg (by omega)
  have x4 : IntKind.u16.wrap ((D + 1) % 512) = (D + 1) % 512 := by rw [IntKind.wrap_u16]; omega
  have HO : CkOk ⟨S, M, H, D, true, false⟩ := ⟨DY.s0, by have q : S ≤ 59 := DY.s1; show S ≤ 63; omega, DY.m0, by have q : M ≤ 59 := DY.m1; show M ≤ 63; omega, DY.h0, by have q : H ≤ 23 := DY.h1; show H ≤ 31; omega, DY.d0, DY.d1⟩
  have E1 : runR ⟨S, M, H, D, false, false⟩ 86400 = ⟨S, M, H, (D + 1) % 512, false, D == 511⟩ := by
    unfold runR
    rw [if_neg (by decide)]
    unfold runC
    rw [norm_id DY.ok]
    exact next_day S M H D DY
  have E2 : runR ⟨S, M, H, D, true, false⟩ 86400 = ⟨S, M, H, D, true, false⟩ := by
    unfold runR
    rw [if_neg (by decide)]
    unfold runC
    rw [norm_id HO]
    exact run_halt rfl _
  have E3 : tickC ⟨S, M, H, D, true, false⟩ = ⟨S, M, H, D, true, false⟩ := by rw [tickC_ok HO]; rfl
  have C1 := hid (fun u => crun_any ⟨S, M, H, D, false, false⟩ 86400 u DY.ok.inn)
  have C2 := hid (fun u => crun_any ⟨S, M, H, D, true, false⟩ 86400 u HO.inn)
  have C3 := hid (fun u => ctick_any ⟨S, M, H, D, true, false⟩ u HO.inn)
  rw [E1, show runE 86400 = 0 from rfl] at C1
  rw [E2, show runE 86400 = 0 from rfl] at C2
  rw [E3] at C3
  generalize (D + 1) % 512 = E at *
  clear E1 E2 E3 HO DY
  go_enter Try.func4, Try.ntmps4
  go_wp2_with fail
  refine (SH.out _).mono ?_
  rintro e u1 ⟨rfl, k1⟩
  have K1 := hid k1
  clear k1
  go_wp2_with fail
  refine (C1.out _).mono ?_
  rintro e u2 ⟨rfl, k2⟩
  have K2 := hid ((K1.out.alloc (.cells #[.int .u8 S, .int .u8 M, .int .u8 H, .int .u16 D, .bool false, .bool false] 24)).trans k2)
  have Hc := hid (hasK k2 (has_alloc u1 #[.int .u8 S, .int .u8 M, .int .u8 H, .int .u16 D, .bool false, .bool false] 24))
  have Fc := hid (frozK k2 (has_alloc u1 #[.int .u8 S, .int .u8 M, .int .u8 H, .int .u16 D, .bool false, .bool false] 24).1 (froz_new u1 #[.int .u8 S, .int .u8 M, .int .u8 H, .int .u16 D, .bool false, .bool false] 24))
  obtain ⟨zc, cc⟩ := id Hc.out
  have f0 := cc 0
  have f1 := cc 1
  have f2 := cc 2
  have f3 := cc 3
  have f4 := cc 4
  have f5 := cc 5
  simp at f0 f1 f2 f3 f4 f5
  have ff := Fc.out
  have zw : w.heap.size ≤ u1.heap.size := K1.out.size
  have n1 : u1.heap.size ≠ u2.heap.size := by omega
  have n2 : u1.heap.size ≠ u2.heap.size + 1 := by omega
  have n3 : u1.heap.size < u2.heap.size + 1 := by omega
  have n4 : u1.heap.size < u2.heap.size + 1 + 1 := by omega
  have n5 : u2.heap.size ≠ u1.heap.size := by omega
  have n6 : u2.heap.size + 1 ≠ u1.heap.size := by omega
  clear k2 cc
  go_wp2_with fail
  have G0 := hid (has_set Hc.out 4 (.bool true) (by simp))
  simp at G0
  have Kc := hid (K2.out.setCell8 (g := u1.heap.size) zw 4 (.bool true))
  have Ga := hid (has_past (has_alloc (u2.setCell ⟨u1.heap.size, 4, none⟩ (.bool true)) #[.int .u8 S, .int .u8 M, .int .u8 H, .int .u16 E, .bool false, .bool (D == 511)] 24) (.cells #[.int .u8 S, .int .u8 M, .int .u8 H, .int .u16 E, .bool false, .bool (D == 511)] 24))
  have Gw := hid (has_alloc ((u2.setCell ⟨u1.heap.size, 4, none⟩ (.bool true)).alloc (.cells #[.int .u8 S, .int .u8 M, .int .u8 H, .int .u16 E, .bool false, .bool (D == 511)] 24)) #[.int .u8 S, .int .u8 M, .int .u8 H, .int .u16 E, .bool false, .bool (D == 511)] 24)
  have Gc := hid (has_past (has_past G0.out (.cells #[.int .u8 S, .int .u8 M, .int .u8 H, .int .u16 E, .bool false, .bool (D == 511)] 24)) (.cells #[.int .u8 S, .int .u8 M, .int .u8 H, .int .u16 E, .bool false, .bool (D == 511)] 24))
  have Kd := hid ((Kc.out.alloc (.cells #[.int .u8 S, .int .u8 M, .int .u8 H, .int .u16 E, .bool false, .bool (D == 511)] 24)).alloc (.cells #[.int .u8 S, .int .u8 M, .int .u8 H, .int .u16 E, .bool false, .bool (D == 511)] 24))
  have sz : (u2.setCell ⟨u1.heap.size, 4, none⟩ (.bool true)).heap.size = u2.heap.size := by simp
  simp only [World.size_alloc, sz] at Ga Gw Gc
  refine (C2.out _).mono ?_
  rintro e u3 ⟨rfl, k3⟩
  have K3 := hid ((Kd.out.trans k3).alloc (.cells #[.int .u8 S, .int .u8 M, .int .u8 H, .int .u16 D, .bool true, .bool false] 24))
  have J0 := has_past (hasK k3 Gc.out) (.cells #[.int .u8 S, .int .u8 M, .int .u8 H, .int .u16 D, .bool true, .bool false] 24)
  have J1 := has_past (hasK k3 Ga.out) (.cells #[.int .u8 S, .int .u8 M, .int .u8 H, .int .u16 D, .bool true, .bool false] 24)
  have J2 := has_past (hasK k3 Gw.out) (.cells #[.int .u8 S, .int .u8 M, .int .u8 H, .int .u16 D, .bool true, .bool false] 24)
  have J3 := has_alloc u3 #[.int .u8 S, .int .u8 M, .int .u8 H, .int .u16 D, .bool true, .bool false] 24
  clear k3 f0 f1 f2 f3 f4 f5 ff n1 n2 n3 n4 n5 n6 zc Ga Gw Gc Kd Kc G0 K2 Hc Fc sz
  go_wp2_with fail
  obtain ⟨u4, hu4⟩ : ∃ v, u3.alloc (.cells #[.int .u8 S, .int .u8 M, .int .u8 H, .int .u16 D, .bool true, .bool false] 24) = v := ⟨_, rfl⟩
  obtain ⟨b4, hb4⟩ : ∃ v, u3.heap.size = v := ⟨_, rfl⟩
  obtain ⟨b1, hb1⟩ : ∃ v, u2.heap.size = v := ⟨_, rfl⟩
  obtain ⟨b0, hb0⟩ : ∃ v, u1.heap.size = v := ⟨_, rfl⟩
  rw [hu4] at K3 J0 J1 J2 J3
  rw [hb0] at J0
  rw [hb1] at J1 J2
  rw [hb4] at J3
  simp only [hu4, hb0, hb1, hb4]
  clear hu4 hb0 hb1 hb4 zw
  have L0 := hid J0
  have L1 := hid J1
  have L2 := hid J2
  have L3 := hid J3
  clear J0 J1 J2 J3
  obtain ⟨z9b0, c9b0⟩ := id L0.out
  have f9b0c0 := c9b0 0
  have f9b0c1 := c9b0 1
  have f9b0c2 := c9b0 2
  have f9b0c3 := c9b0 3
  have f9b0c4 := c9b0 4
  have f9b0c5 := c9b0 5
  simp at f9b0c0 f9b0c1 f9b0c2 f9b0c3 f9b0c4 f9b0c5
  clear c9b0
  obtain ⟨z9b1, c9b1⟩ := id L1.out
  have f9b1c0 := c9b1 0
  have f9b1c1 := c9b1 1
  have f9b1c2 := c9b1 2
  have f9b1c3 := c9b1 3
  have f9b1c4 := c9b1 4
  have f9b1c5 := c9b1 5
  simp at f9b1c0 f9b1c1 f9b1c2 f9b1c3 f9b1c4 f9b1c5
  clear c9b1
  obtain ⟨z9b2, c9b2⟩ := id L2.out
  have f9b2c0 := c9b2 0
  have f9b2c1 := c9b2 1
  have f9b2c2 := c9b2 2
  have f9b2c3 := c9b2 3
  have f9b2c4 := c9b2 4
  have f9b2c5 := c9b2 5
  simp at f9b2c0 f9b2c1 f9b2c2 f9b2c3 f9b2c4 f9b2c5
  clear c9b2
  obtain ⟨z9b3, c9b3⟩ := id L3.out
  have f9b3c0 := c9b3 0
  have f9b3c1 := c9b3 1
  have f9b3c2 := c9b3 2
  have f9b3c3 := c9b3 3
  have f9b3c4 := c9b3 4
  have f9b3c5 := c9b3 5
  simp at f9b3c0 f9b3c1 f9b3c2 f9b3c3 f9b3c4 f9b3c5
  clear c9b3
  go_region_held3 (fun w' => b0 < w'.heap.size ∧ w'.cell? ⟨b0, 0, none⟩ = some (.int .u8 S) ∧ w'.cell? ⟨b0, 1, none⟩ = some (.int .u8 M) ∧ w'.cell? ⟨b0, 2, none⟩ = some (.int .u8 H) ∧ w'.cell? ⟨b0, 3, none⟩ = some (.int .u16 D) ∧ w'.cell? ⟨b0, 4, none⟩ = some (.bool true) ∧ w'.cell? ⟨b0, 5, none⟩ = some (.bool false) ∧ b1 < w'.heap.size ∧ w'.cell? ⟨b1, 0, none⟩ = some (.int .u8 S) ∧ w'.cell? ⟨b1, 1, none⟩ = some (.int .u8 M) ∧ w'.cell? ⟨b1, 2, none⟩ = some (.int .u8 H) ∧ w'.cell? ⟨b1, 3, none⟩ = some (.int .u16 E) ∧ w'.cell? ⟨b1, 4, none⟩ = some (.bool false) ∧ w'.cell? ⟨b1, 5, none⟩ = some (.bool (D == 511)) ∧ b1 + 1 < w'.heap.size ∧ w'.cell? ⟨b1 + 1, 0, none⟩ = some (.int .u8 S) ∧ w'.cell? ⟨b1 + 1, 1, none⟩ = some (.int .u8 M) ∧ w'.cell? ⟨b1 + 1, 2, none⟩ = some (.int .u8 H) ∧ w'.cell? ⟨b1 + 1, 3, none⟩ = some (.int .u16 E) ∧ w'.cell? ⟨b1 + 1, 4, none⟩ = some (.bool false) ∧ w'.cell? ⟨b1 + 1, 5, none⟩ = some (.bool (D == 511)) ∧ b4 < w'.heap.size ∧ w'.cell? ⟨b4, 0, none⟩ = some (.int .u8 S) ∧ w'.cell? ⟨b4, 1, none⟩ = some (.int .u8 M) ∧ w'.cell? ⟨b4, 2, none⟩ = some (.int .u8 H) ∧ w'.cell? ⟨b4, 3, none⟩ = some (.int .u16 D) ∧ w'.cell? ⟨b4, 4, none⟩ = some (.bool true) ∧ w'.cell? ⟨b4, 5, none⟩ = some (.bool false)) (go_keep) (first | (go_at_call 13; refine (C3.out _).mono ?_; rintro e v1 ⟨rfl, q1⟩; have D1b0 := hasK q1 L0.out; obtain ⟨zD1b0, cD1b0⟩ := id D1b0; have D1b1 := hasK q1 L1.out; obtain ⟨zD1b1, cD1b1⟩ := id D1b1; have D1b2 := hasK q1 L2.out; obtain ⟨zD1b2, cD1b2⟩ := id D1b2; have D1b3 := hasK q1 L3.out; obtain ⟨zD1b3, cD1b3⟩ := id D1b3))
  all_goals
    go_wp2
    go_ret
    exact ⟨rfl, K3.out.drew.trans q1⟩

set_option maxRecDepth 100000 in
theorem contract (H : Type) (enc : TypeId × Value → H) (fi : Stop.Interp) (W : World) (base : Nat) (args : Array Value) (ds gs : List (DataW H)) (before : List MemPlace)
    (hval : ∀ (j : Nat) t v, Try.f4.params[j]? = some t → args[j]? = some v → Value.okWide Try.prog W .any base t v)
    (hW : DataW.Whole enc Try.prog Try.f4.params.toList (OpenSpec.ofChange Rows.clockDaySpec).vars false W args.toList ds gs before)
    (hk0 : ∀ k, (OpenSpec.ofChange Rows.clockDaySpec).cond = some k → k H (ds ++ gs) = true)
    (hsz0 : (DataW.weightsEach Try.prog (Try.f4.params.toList ++ (OpenSpec.ofChange Rows.clockDaySpec).bare.plain.varTypes Try.prog) (ds ++ gs)).all (· ≤ reachBytes) = true) (hL : laidMetH Try.prog Rows.clockDayRow.laid W) :
    Calls Try.prog 4 args W fun e W' => ∃ v, e = .returned v ∧ ((OpenSpec.ofChange Rows.clockDaySpec).at fi).post enc Try.prog Try.f4 false true false false W args v W' := by
  have hW' := hW
  obtain ⟨p, q, hA0, hV, rfl, hfz, hnd⟩ := hW
  have hA : DataW.TrodAll enc Try.prog W 0 (fun _ => true) true Try.f4.params.toList args.toList ds p := hA0
  rw [Try.params4] at hA hval
  obtain ⟨v0, vs0, d0, ds0, p0, q0, hargs, rfl, rfl, h0, r0x⟩ := trodAll_cons hA
  obtain ⟨v1, vs1, d1, ds1, p1, q1, rfl, rfl, rfl, h1, r1x⟩ := trodAll_cons r0x
  obtain ⟨v2, vs2, d2, ds2, p2, q2, rfl, rfl, rfl, h2, r2x⟩ := trodAll_cons r1x
  obtain ⟨v3, vs3, d3, ds3, p3, q3, rfl, rfl, rfl, h3, r3x⟩ := trodAll_cons r2x
  obtain ⟨rfl, rfl, rfl⟩ := trodAll_nil r3x
  obtain rfl : args = #[v0, v1, v2, v3] := by cases args; simp_all
  obtain ⟨rfl, rfl⟩ := trodVars_none hV
  have hsz : (DataW.weightsEach Try.prog [5, 5, 5, 22] [d0, d1, d2, d3]).all (· ≤ reachBytes) = true := by
    have q := hsz0
    rw [show Try.f4.params.toList ++ (OpenSpec.ofChange Rows.clockDaySpec).bare.plain.varTypes Try.prog = [5, 5, 5, 22] by kernel_rfl] at q
    simpa using q
  obtain ⟨a0, rfl, rfl, rfl, w0⟩ := open_int Try.underlying5 (hval 0 5 v0 rfl rfl) h0
  obtain ⟨a1, rfl, rfl, rfl, w1⟩ := open_int Try.underlying5 (hval 1 5 v1 rfl rfl) h1
  obtain ⟨a2, rfl, rfl, rfl, w2⟩ := open_int Try.underlying5 (hval 2 5 v2 rfl rfl) h2
  obtain ⟨a3, rfl, rfl, rfl, w3⟩ := open_int Try.underlying22 (hval 3 22 v3 rfl rfl) h3
  clear hA0
  refine (walk a0 a1 a2 a3 W w0 w1 w2 w3).mono fun e W' ⟨he, hg⟩ => ?_
  subst he
  exact ⟨_, rfl, _, _, _, [], _, [], hW', trodAll_mk1 (shut_bool Try.underlying4 _), (trodAll_cons_mk (shut_int Try.underlying5 w0) (trodAll_cons_mk (shut_int Try.underlying5 w1) (trodAll_cons_mk (shut_int Try.underlying5 w2) (trodAll_cons_mk (shut_int Try.underlying22 w3) trodAll_mk0)))), rfl, hg.frame _, fun h => by cases h⟩
theorem start_met (os : Os) (args : Array Value) : laidMetH Try.prog Rows.clockDayRow.laid ((World.laidAll Try.prog os Rows.clockDayRow.laid).forCall (fun _ _ => 0) ⟨#[], args, []⟩).memory := by
  exact ⟨[], rfl, List.nodup_nil, fun _ _ h => by cases h⟩
theorem reads (os : Os) {H : Type} (enc : TypeId × Value → H) : ∃ places, DataW.whole enc Try.prog ((World.laidAll Try.prog os Rows.clockDayRow.laid).forCall (fun _ _ => 0) ⟨#[], #[.int .u8 0, .int .u8 0, .int .u8 0, .int .u16 0], []⟩).memory Try.f4.params.toList (OpenSpec.ofChange Rows.clockDaySpec).vars false #[.int .u8 0, .int .u8 0, .int .u8 0, .int .u16 0].toList 8 = some ([.lit (.int .u8 0), .lit (.int .u8 0), .lit (.int .u8 0), .lit (.int .u16 0)], [], places) :=
  ⟨[], by kernel_rfl⟩
set_option maxRecDepth 100000 in
theorem lifted (os : Os) (started : os.Started) (H : Type) (enc : TypeId × Value → H) (fi : Stop.Interp) :
    ReturnsInHanded {} Try.checked os 4 .any ((OpenSpec.ofChange Rows.clockDaySpec).preRow enc Try.prog Try.f4 Rows.clockDayRow.domain false Rows.clockDayRow.laid) (((OpenSpec.ofChange Rows.clockDaySpec).at fi).post enc Try.prog Try.f4 false true false false) := by
  obtain ⟨places, hx⟩ := reads os enc
  refine returnsInHanded_of_row (C := Try.checked) (s := (OpenSpec.ofChange Rows.clockDaySpec)) own started (by kernel_rfl) Try.func4
    (witness_row_atRef (enc := enc) (C := Try.checked) false (World.laidAll Try.prog os Rows.clockDayRow.laid) #[.int .u8 0, .int .u8 0, .int .u8 0, .int .u16 0] (World.laidAll_os _ _ _) (by kernel_rfl) (by kernel_rfl) (by kernel_rfl)
      (OpenSpec.preRow_of_cond 8 hx (by kernel_rfl) (fun k hk => by cases hk) (by kernel_rfl) (start_met os _))) ?_
  intro W base args ds gs before hval hW _ hk hsz hL _ _
  exact contract H enc fi W base args ds gs before hval hW hk hsz hL
theorem said : Rows.ClockDaySaid :=
  OpenClaim.holds_of_cond 4 Try.f4 rfl rfl rfl rfl rfl rfl rfl ⟨rfl, rfl, rfl, rfl, rfl⟩ rfl rfl rfl rfl rfl (by kernel_rfl) Try.func4 (by kernel_rfl)
    (of_decide_eq_true (by kernel_rfl)) (by unfold Func.isWrapper; first | (rw [if_pos (by decide +kernel)]; kernel_rfl) | (rw [if_neg (by decide +kernel)]; exact ⟨rfl, rfl⟩))
    (fun os started H enc _ fi => by rw [OpenClaim.pre_eq_preRow]; exact lifted os started H enc fi)
end Go.Proofs.Ytpnidlibgpbjgab.clockDay
namespace Go.Proofs.Ytpnidlibgpbjgab
theorem clockDay_holds : Rows.ClockDaySaid := clockDay.said
end Go.Proofs.Ytpnidlibgpbjgab
