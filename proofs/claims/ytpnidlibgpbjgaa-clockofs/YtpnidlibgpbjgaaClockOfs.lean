/- For every row of bytes: the law ClockOfs returns true (no condition). -/
import Derived.Test.YtpnidlibgpbjgaaRows
import Derived.WalkKit
import Derived.ProofKit
import Derived.OpenShut
import Derived.ShutString
import Derived.ChangeOld
import Derived.Deep.RegionHeld3
import Derived.Deep.DeepCutAuto
import Derived.LaidMore
import Derived.Lay
import Derived.Stop.Joined
import Derived.SevenTiedAt
import Derived.Deep.DeepHandedRow
import Derived.Deep.DeepWitnessRowRef
import Derived.SizedLaws
import Derived.SliceStrings
import Derived.Test.YtpnidlibgpbjgaaWish7
import Derived.Test.YtpnidlibgpbjgaaK6
import Derived.Test.YtpnidlibgpbjgaaShown9
import Derived.Test.YtpnidlibgpbjgaaPg9g
namespace Go.Proofs.Ytpnidlibgpbjgaa.clockOfs
open Go.ChangeShapes Go.WideShapes Go.ChangeAt Go.RowKit
open Go.ChangeMaps (open_string shut_string)
set_option linter.unusedVariables false

theorem own : ownKnob Try.prog.godebug = none := by kernel_rfl
theorem laidOut : laidOutB Try.prog = true := by kernel_rfl

set_option maxRecDepth 100000 in
set_option maxHeartbeats 8000000 in
theorem walk (a0 : Option Addr) (cap0 : Nat) (z0 : List Int) (w : World) (r0 : Row w a0 z0) (l0 : z0.length ≤ cap0) (m0 : cap0 ≤ maxLen) (b0 : z0.length ≤ 140737488355328) (n0 : a0 = none → cap0 = 0) :
    Calls Try.prog 8 #[.slice a0 z0.length cap0] w fun e w' => e = .returned (.bool true) ∧ Kept w w' := by
  have S := hid (fun u => shown9 u)
  have A := hid (fun u (g : Kept w u) => cof_any z0 a0 cap0 u (row_kept g r0) l0 m0)
  have B := hid (fun u (g : Kept w u) => rof_any z0 a0 cap0 u (row_kept g r0) l0 m0)
  generalize ofX z0 = X at *
  generalize ofY z0 = Y at *
  generalize ofE z0 = E at *
  go_enter Try.func8, Try.ntmps8
  go_wp2_with fail
  refine (S.out _).mono ?_
  rintro e u1 ⟨rfl, k1⟩
  have K1 := hid k1
  clear k1
  go_wp2_with fail
  refine (A.out _ K1.out).mono ?_
  rintro e u2 ⟨rfl, k2⟩
  have K2 := hid (((K1.out.trans k2).alloc (.cells #[.int .u8 X.sec, .int .u8 X.min, .int .u8 X.hour, .int .u16 X.day, .bool X.halt, .bool X.carry] 24)).alloc (.cells #[.int .u8 Y.sec, .int .u8 Y.min, .int .u8 Y.hour, .int .u16 Y.day, .bool Y.halt, .bool Y.carry] 24))
  clear k2
  go_wp2_with fail
  refine (B.out _ K2.out).mono ?_
  rintro e u3 ⟨rfl, h3⟩
  have K3 := hid (K2.out.trans (Kept.of h3))
  have HX := hasK (Kept.of h3) (has_past (has_alloc u2 #[.int .u8 X.sec, .int .u8 X.min, .int .u8 X.hour, .int .u16 X.day, .bool X.halt, .bool X.carry] 24) (.cells #[.int .u8 Y.sec, .int .u8 Y.min, .int .u8 Y.hour, .int .u16 Y.day, .bool Y.halt, .bool Y.carry] 24))
  have HY := hasK (Kept.of h3) (has_alloc (u2.alloc (.cells #[.int .u8 X.sec, .int .u8 X.min, .int .u8 X.hour, .int .u16 X.day, .bool X.halt, .bool X.carry] 24)) #[.int .u8 Y.sec, .int .u8 Y.min, .int .u8 Y.hour, .int .u16 Y.day, .bool Y.halt, .bool Y.carry] 24)
  simp only [World.size_alloc] at HY
  obtain ⟨zx, cx⟩ := id HX
  obtain ⟨zy, cy⟩ := id HY
  have x0 := cx 0
  have x1 := cx 1
  have x2 := cx 2
  have x3 := cx 3
  have x4 := cx 4
  have x5 := cx 5
  have y0 := cy 0
  have y1 := cy 1
  have y2 := cy 2
  have y3 := cy 3
  have y4 := cy 4
  have y5 := cy 5
  simp at x0 x1 x2 x3 x4 x5 y0 y1 y2 y3 y4 y5
  clear h3 HX HY cx cy
  go_wp2
  go_ret
  exact ⟨rfl, by repeat (first | with_reducible exact K3.out | with_reducible refine Kept.alloc ?_ _)⟩

set_option maxRecDepth 100000 in
theorem contract (H : Type) (enc : TypeId × Value → H) (fi : Stop.Interp) (W : World) (base : Nat) (args : Array Value) (ds gs : List (DataW H)) (before : List MemPlace)
    (hval : ∀ (j : Nat) t v, Try.f8.params[j]? = some t → args[j]? = some v → Value.okWide Try.prog W .any base t v)
    (hW : DataW.Whole enc Try.prog Try.f8.params.toList (OpenSpec.ofChange Rows.clockOfsSpec).vars false W args.toList ds gs before)
    (hk0 : ∀ k, (OpenSpec.ofChange Rows.clockOfsSpec).cond = some k → k H (ds ++ gs) = true)
    (hsz0 : (DataW.weightsEach Try.prog (Try.f8.params.toList ++ (OpenSpec.ofChange Rows.clockOfsSpec).bare.plain.varTypes Try.prog) (ds ++ gs)).all (· ≤ reachBytes) = true) (hL : laidMetH Try.prog Rows.clockOfsRow.laid W) :
    Calls Try.prog 8 args W fun e W' => ∃ v, e = .returned v ∧ ((OpenSpec.ofChange Rows.clockOfsSpec).at fi).post enc Try.prog Try.f8 false true false false W args v W' := by
  have hW' := hW
  obtain ⟨p, q, hA0, hV, rfl, hfz, hnd⟩ := hW
  have hA : DataW.TrodAll enc Try.prog W 0 (fun _ => true) true Try.f8.params.toList args.toList ds p := hA0
  rw [Try.params8] at hA hval
  obtain ⟨v0, vs0, d0, ds0, p0, q0, hargs, rfl, rfl, h0, r0x⟩ := trodAll_cons hA
  obtain ⟨rfl, rfl, rfl⟩ := trodAll_nil r0x
  obtain rfl : args = #[v0] := by cases args; simp_all
  obtain ⟨rfl, rfl⟩ := trodVars_none hV
  have hsz : (DataW.weightsEach Try.prog [41] [d0]).all (· ≤ reachBytes) = true := by
    have q := hsz0
    rw [show Try.f8.params.toList ++ (OpenSpec.ofChange Rows.clockOfsSpec).bare.plain.varTypes Try.prog = [41] by kernel_rfl] at q
    simpa using q
  obtain ⟨a0, len0, cap0, rfl⟩ := okWide_slice Try.underlying41 (hval 0 41 v0 rfl rfl)
  have k0 := h0
  have lt0 : ∀ x ∈ p0, x.block < W.heap.size := by obtain ⟨m, hm⟩ := k0; exact DataW.trod_lt m _ _ _ hm
  obtain ⟨z0, rfl, r0, l0, m0, b0, n0⟩ : ∃ zs : List Int, len0 = zs.length ∧ Row W a0 zs ∧ zs.length ≤ cap0 ∧ cap0 ≤ maxLen ∧ zs.length ≤ 140737488355328 ∧ (a0 = none → cap0 = 0) := by
    obtain ⟨fuel, hf⟩ := h0
    rcases open_ints Try.underlying41 Try.underlying5 (by kernel_rfl) hf with ⟨hcs, hx⟩ | ⟨x, l, c, zs, hcs, hb, hl, hm, hz, hx, hcell, hwz⟩
    · simp [Value.cells] at hcs
      obtain ⟨rfl, rfl, rfl⟩ := hcs
      exact ⟨[], rfl, row_nil7 W none, by simp, by simp, by simp, fun _ => rfl⟩
    · simp [Value.cells] at hcs
      obtain ⟨rfl, rfl, rfl⟩ := hcs
      simp only [if_true] at hz
      obtain ⟨hd, hp⟩ := Prod.mk.inj hx
      have tk : (zs.take len0).length = len0 := by rw [List.length_take, hz]; omega
      have sz := sized_slice (j := 0) (t := 41) (e := 5) hsz rfl (by rw [hd]; rfl) Try.underlying41
      rw [show Try.prog.bytesOf 5 = 1 by kernel_rfl] at sz
      have rl : reachBytes = 140737488351232 := rfl
      simp only [lits, List.length_map, tk] at sz
      refine ⟨zs.take len0, tk.symm, row_of7 (by omega) hcell (fun z hz => bounds_u8 (hwz z hz)) (by omega), by omega, hm, by omega, fun e => by cases e⟩

  clear hA0
  refine (walk a0 cap0 z0 W r0 l0 m0 b0 n0).mono fun e W' ⟨he, hg⟩ => ?_
  subst he
  exact ⟨_, rfl, _, _, _, [], _, [], hW', trodAll_mk1 (shut_bool Try.underlying4 _), (trodAll_cons_mk (Kept.trod laidOut (by kernel_rfl) (of_decide_eq_true (by kernel_rfl)) k0 hg lt0) trodAll_mk0), rfl, hg.frame _, fun h => by cases h⟩
theorem start_met (os : Os) (args : Array Value) : laidMetH Try.prog Rows.clockOfsRow.laid ((World.laidAll Try.prog os Rows.clockOfsRow.laid).forCall (fun _ _ => 0) ⟨#[], args, []⟩).memory := by
  exact ⟨[], rfl, List.nodup_nil, fun _ _ h => by cases h⟩
theorem reads (os : Os) {H : Type} (enc : TypeId × Value → H) : ∃ places, DataW.whole enc Try.prog ((World.laidAll Try.prog os Rows.clockOfsRow.laid).forCall (fun _ _ => 0) ⟨#[], #[.slice none 0 0], []⟩).memory Try.f8.params.toList (OpenSpec.ofChange Rows.clockOfsSpec).vars false #[.slice none 0 0].toList 8 = some ([.nil], [], places) :=
  ⟨[], by kernel_rfl⟩
set_option maxRecDepth 100000 in
theorem lifted (os : Os) (started : os.Started) (H : Type) (enc : TypeId × Value → H) (fi : Stop.Interp) :
    ReturnsInHanded {} Try.checked os 8 .any ((OpenSpec.ofChange Rows.clockOfsSpec).preRow enc Try.prog Try.f8 Rows.clockOfsRow.domain false Rows.clockOfsRow.laid) (((OpenSpec.ofChange Rows.clockOfsSpec).at fi).post enc Try.prog Try.f8 false true false false) := by
  obtain ⟨places, hx⟩ := reads os enc
  refine returnsInHanded_of_row (C := Try.checked) (s := (OpenSpec.ofChange Rows.clockOfsSpec)) own started (by kernel_rfl) Try.func8
    (witness_row_atRef (enc := enc) (C := Try.checked) false (World.laidAll Try.prog os Rows.clockOfsRow.laid) #[.slice none 0 0] (World.laidAll_os _ _ _) (by kernel_rfl) (by kernel_rfl) (by kernel_rfl)
      (OpenSpec.preRow_of_cond 8 hx (by kernel_rfl) (fun k hk => by cases hk) (by kernel_rfl) (start_met os _))) ?_
  intro W base args ds gs before hval hW _ hk hsz hL _ _
  exact contract H enc fi W base args ds gs before hval hW hk hsz hL
theorem said : Rows.ClockOfsSaid :=
  OpenClaim.holds_of_cond 8 Try.f8 rfl rfl rfl rfl rfl rfl rfl ⟨rfl, rfl, rfl, rfl, rfl⟩ rfl rfl rfl rfl rfl (by kernel_rfl) Try.func8 (by kernel_rfl)
    (of_decide_eq_true (by kernel_rfl)) (by unfold Func.isWrapper; first | (rw [if_pos (by decide +kernel)]; kernel_rfl) | (rw [if_neg (by decide +kernel)]; exact ⟨rfl, rfl⟩))
    (fun os started H enc _ fi => by rw [OpenClaim.pre_eq_preRow]; exact lifted os started H enc fi)
end Go.Proofs.Ytpnidlibgpbjgaa.clockOfs
namespace Go.Proofs.Ytpnidlibgpbjgaa
theorem clockOfs_holds : Rows.ClockOfsSaid := clockOfs.said
end Go.Proofs.Ytpnidlibgpbjgaa
