/- Whatever each line is drawn from, the picture is the document's -/
import Derived.Test.YtecgpdjgbdobbaaRows
import Derived.WalkKit
import Derived.ProofKit
import Derived.OpenShut
import Derived.ShutString
import Derived.ChangeOld
import Derived.Deep.RegionHeld3
import Derived.Deep.DeepCutAuto
import Derived.LaidMore
import Derived.Lay
import Derived.Stop.Joined
import Derived.SevenTiedAt
import Derived.Deep.DeepHandedRow
import Derived.Deep.DeepWitnessRowRef
import Derived.SizedLaws
import Derived.SliceStrings
import Derived.Test.YtecgpdjgbdobbaaG21
import Derived.Test.YtecgpdjgbdobbaaG09
import Derived.Test.YtecgpdjgbdobbaaG03
import Derived.Test.YtecgpdjgbdobbaaG06
import Derived.Test.YtecgpdjgbdobbaaG16
import Derived.Test.YtecgpdjgbdobbaaG32
namespace Go.Proofs.Ytecgpdjgbdobbaa.scanFrames
open Go.ChangeShapes Go.WideShapes Go.ChangeAt Go.RowKit
open Go.ChangeMaps (open_string shut_string)
set_option linter.unusedVariables false

theorem own : ownKnob Try.prog.godebug = none := by kernel_rfl
theorem laidOut : laidOutB Try.prog = true := by kernel_rfl

set_option maxRecDepth 100000 in
set_option maxHeartbeats 8000000 in
theorem walk (a0 : Option Addr) (cap0 : Nat) (s0 : List Vd) (w : World) (r0 : FRow w a0 10 (s0.map vdC)) (q0 : ∀ x ∈ s0, VdIn w x) (l0 : s0.length ≤ cap0) (m0 : cap0 ≤ maxLen) (n0 : a0 = none → cap0 = 0) :
    Calls Try.prog 5 #[.slice a0 s0.length cap0] w fun e w' => e = .returned (.bool true) ∧ Kept w w' := by
  exact frames18 a0 cap0 s0 w r0 q0 l0 m0 n0

set_option maxRecDepth 100000 in
theorem contract (H : Type) (enc : TypeId × Value → H) (fi : Stop.Interp) (W : World) (base : Nat) (args : Array Value) (ds gs : List (DataW H)) (before : List MemPlace)
    (hval : ∀ (j : Nat) t v, Try.f5.params[j]? = some t → args[j]? = some v → Value.okWide Try.prog W .any base t v)
    (hW : DataW.Whole enc Try.prog Try.f5.params.toList (OpenSpec.ofChange Rows.scanFramesSpec).vars false W args.toList ds gs before)
    (hk0 : ∀ k, (OpenSpec.ofChange Rows.scanFramesSpec).cond = some k → k H (ds ++ gs) = true)
    (hsz0 : (DataW.weightsEach Try.prog (Try.f5.params.toList ++ (OpenSpec.ofChange Rows.scanFramesSpec).bare.plain.varTypes Try.prog) (ds ++ gs)).all (· ≤ reachBytes) = true) (hL : laidMetH Try.prog Rows.scanFramesRow.laid W) :
    Calls Try.prog 5 args W fun e W' => ∃ v, e = .returned v ∧ ((OpenSpec.ofChange Rows.scanFramesSpec).at fi).post enc Try.prog Try.f5 false true false false W args v W' := by
  have hW' := hW
  obtain ⟨p, q, hA0, hV, rfl, hfz, hnd⟩ := hW
  have hA : DataW.TrodAll enc Try.prog W 0 (fun _ => true) true Try.f5.params.toList args.toList ds p := hA0
  rw [Try.params5] at hA hval
  obtain ⟨v0, vs0, d0, ds0, p0, q0, hargs, rfl, rfl, h0, r0x⟩ := trodAll_cons hA
  obtain ⟨rfl, rfl, rfl⟩ := trodAll_nil r0x
  obtain rfl : args = #[v0] := by cases args; simp_all
  obtain ⟨rfl, rfl⟩ := trodVars_none hV
  have hsz : (DataW.weightsEach Try.prog [30] [d0]).all (· ≤ reachBytes) = true := by
    have q := hsz0
    rw [show Try.f5.params.toList ++ (OpenSpec.ofChange Rows.scanFramesSpec).bare.plain.varTypes Try.prog = [30] by kernel_rfl] at q
    simpa using q
  have k0 := h0
  have lt0 : ∀ x ∈ p0, x.block < W.heap.size := by obtain ⟨m, hm⟩ := k0; exact DataW.trod_lt m _ _ _ hm
  obtain ⟨a0, len0, cap0, rfl⟩ := okWide_slice Try.underlying30 (hval 0 30 v0 rfl rfl)
  obtain ⟨fuel0, hf0⟩ := h0
  obtain ⟨a0x, cap0x, s0, ev0, r0, q0, l0, m0, n0⟩ := open_videos hf0 (sized_part hsz (j := 0) (t := 30) rfl rfl)
  cases ev0
  clear hA0
  refine (walk a0 cap0 s0 W r0 q0 l0 m0 n0).mono fun e W' ⟨he, hg⟩ => ?_
  subst he
  exact ⟨_, rfl, _, _, _, [], _, [], hW', trodAll_mk1 (shut_bool Try.underlying4 _), (trodAll_cons_mk (Kept.trod laidOut (by kernel_rfl) (of_decide_eq_true (by kernel_rfl)) k0 hg lt0) trodAll_mk0), rfl, hg.frame _, fun h => by cases h⟩
theorem start_met (os : Os) (args : Array Value) : laidMetH Try.prog Rows.scanFramesRow.laid ((World.laidAll Try.prog os Rows.scanFramesRow.laid).forCall (fun _ _ => 0) ⟨#[], args, []⟩).memory := by
  exact ⟨[], rfl, List.nodup_nil, fun _ _ h => by cases h⟩
theorem reads (os : Os) {H : Type} (enc : TypeId × Value → H) : ∃ places, DataW.whole enc Try.prog ((World.laidAll Try.prog os Rows.scanFramesRow.laid).forCall (fun _ _ => 0) ⟨#[], #[.slice none 0 0], []⟩).memory Try.f5.params.toList (OpenSpec.ofChange Rows.scanFramesSpec).vars false #[.slice none 0 0].toList 8 = some ([.nil], [], places) :=
  ⟨[], by kernel_rfl⟩
set_option maxRecDepth 100000 in
theorem lifted (os : Os) (started : os.Started) (H : Type) (enc : TypeId × Value → H) (fi : Stop.Interp) :
    ReturnsInHanded {} Try.checked os 5 .any ((OpenSpec.ofChange Rows.scanFramesSpec).preRow enc Try.prog Try.f5 Rows.scanFramesRow.domain false Rows.scanFramesRow.laid) (((OpenSpec.ofChange Rows.scanFramesSpec).at fi).post enc Try.prog Try.f5 false true false false) := by
  obtain ⟨places, hx⟩ := reads os enc
  refine returnsInHanded_of_row (C := Try.checked) (s := (OpenSpec.ofChange Rows.scanFramesSpec)) own started (by kernel_rfl) Try.func5
    (witness_row_atRef (enc := enc) (C := Try.checked) false (World.laidAll Try.prog os Rows.scanFramesRow.laid) #[.slice none 0 0] (World.laidAll_os _ _ _) (by kernel_rfl) (by kernel_rfl) (by kernel_rfl)
      (OpenSpec.preRow_of_cond 8 hx (by kernel_rfl) (fun k hk => by cases hk) (by kernel_rfl) (start_met os _))) ?_
  intro W base args ds gs before hval hW _ hk hsz hL _ _
  exact contract H enc fi W base args ds gs before hval hW hk hsz hL
theorem said : Rows.ScanFramesSaid :=
  OpenClaim.holds_of_cond 5 Try.f5 rfl rfl rfl rfl rfl rfl rfl ⟨rfl, rfl, rfl, rfl, rfl⟩ rfl rfl rfl rfl rfl (by kernel_rfl) Try.func5 (by kernel_rfl)
    (of_decide_eq_true (by kernel_rfl)) (by unfold Func.isWrapper; first | (rw [if_pos (by decide +kernel)]; kernel_rfl) | (rw [if_neg (by decide +kernel)]; exact ⟨rfl, rfl⟩))
    (fun os started H enc _ fi => by rw [OpenClaim.pre_eq_preRow]; exact lifted os started H enc fi)
end Go.Proofs.Ytecgpdjgbdobbaa.scanFrames
namespace Go.Proofs.Ytecgpdjgbdobbaa
theorem scanFrames_holds : Rows.ScanFramesSaid := scanFrames.said
end Go.Proofs.Ytecgpdjgbdobbaa
